/- DERIVED of the program: slice literals of one to four messages, whatever they are. Own work. -/
import Derived.Test.YtakomlmbdienpaaDoorFbA
namespace Go.Proofs.YtakomlmbdienpaaDoor
open Go.RowKit Go.Extern.Stop Go.Stop Go.Extern

/-- The cells of messages one behind the other. -/
def lits (L : List M13) : Array Value := ((L.map mc).flatten).toArray
theorem Rows'.lits (w : World) (L : List M13) : Rows' 13 (w.alloc (.cells (lits L) 32)) (some ⟨w.heap.size, 0, none⟩) L.length (L.map mc) := by
  refine ⟨by rw [List.length_map]; exact Nat.le_refl _, fun k hk c v hv => ⟨w.heap.size, 0, rfl, ?_⟩, mcs_each L, (by simp)⟩
  have hc : c < 13 := by have := (List.getElem?_eq_some_iff.1 hv).1; rwa [(mcs_each L _ (List.getElem_mem hk)).1] at this
  refine blk_cell (heap_alloc_new w (.cells (Go.Proofs.YtakomlmbdienpaaDoor.lits L) 32)) ?_
  have := flat_get (m := 13) (rs := L.map mc) (fun r hr => (mcs_each L r hr).1) k c hk hc
  rw [Nat.zero_add]
  unfold Go.Proofs.YtakomlmbdienpaaDoor.lits
  rw [List.getElem?_toArray, this]
  exact hv
theorem lits_one (m : M13) : lits [m] = mv m := by unfold lits; simp [mc_arr]

set_option maxRecDepth 20000 in
theorem run_build1 (a : M13) (w : World) : (Instr.buildSlice 44 1 #[(0, .agg (mv a))]).run Tryd.prog w = .ok (.slice (some ⟨w.heap.size, 0, none⟩) 1 1) (w.alloc (.cells (lits [a]) 32)) := by
  obtain ⟨a0, a1, a2, a3, a4, a5, a6, a7, a8, a9, a10, a11, a12⟩ := a
  simp only [mv_eq, lits, mc_eq, List.map_cons, List.map_nil, List.flatten_cons, List.flatten_nil, List.append_nil]
  go_simp
theorem wp_build1 {w : World} {o : Oper} {A : Act} {K : Act → World → Prop} {Q : Exit → Act → World → Prop} (x : Operand) (ho : o.op = .buildSlice 44 1 #[(0, x)]) (a : M13) (hx : A.eval x = .agg (mv a))
    (hK : K (A.put o.dst (.slice (some ⟨w.heap.size, 0, none⟩) 1 1)) (w.alloc (.cells (lits [a]) 32))) : o.wp Tryd.prog A w K Q := by
  have hr := run_build1 a w
  unfold Oper.wp
  simp [execOp, ho, hx, hr, Result.andThen]
  exact hK
theorem wpList_build1 {w : World} {ops : Array Oper} {rest : List Oper} {o : Oper} {A : Act} {Q : Exit → Act → World → Prop} (hgd : o.guard = none) (x : Operand) (ho : o.op = .buildSlice 44 1 #[(0, x)]) (a : M13) (hx : A.eval x = .agg (mv a))
    (hK : wpList Tryd.prog ops Q rest (A.put o.dst (.slice (some ⟨w.heap.size, 0, none⟩) 1 1)) (w.alloc (.cells (lits [a]) 32))) : wpList Tryd.prog ops Q (o :: rest) A w :=
  wpList_plain hgd fun _ h => wp_build1 x ho a hx (h _ _ hK)
theorem step_build1 {w : World} {ops : Array Oper} {o : Oper} {A : Act} {K : Act → World → Prop} {Q : Exit → Act → World → Prop} {E : Prop} (hgd : o.guard = none) (x : Operand) (ho : o.op = .buildSlice 44 1 #[(0, x)]) (a : M13) (hx : A.eval x = .agg (mv a))
    (hK : K (A.put o.dst (.slice (some ⟨w.heap.size, 0, none⟩) 1 1)) (w.alloc (.cells (lits [a]) 32))) : if Region.wanted o (yielded ops A.tmps) = true then Oper.wp Tryd.prog o A w K Q else E := by
  have hw : Region.wanted o (yielded ops A.tmps) = true := by simp [Region.wanted, hgd]
  rw [if_pos hw]
  exact wp_build1 x ho a hx hK

set_option maxRecDepth 20000 in
theorem run_build2 (a b : M13) (w : World) : (Instr.buildSlice 44 2 #[(0, .agg (mv a)), (1, .agg (mv b))]).run Tryd.prog w = .ok (.slice (some ⟨w.heap.size, 0, none⟩) 2 2) (w.alloc (.cells (lits [a, b]) 32)) := by
  obtain ⟨a0, a1, a2, a3, a4, a5, a6, a7, a8, a9, a10, a11, a12⟩ := a
  obtain ⟨b0, b1, b2, b3, b4, b5, b6, b7, b8, b9, b10, b11, b12⟩ := b
  simp only [mv_eq, lits, mc_eq, List.map_cons, List.map_nil, List.flatten_cons, List.flatten_nil, List.cons_append, List.nil_append, List.append_nil]
  go_simp
theorem wp_build2 {w : World} {o : Oper} {A : Act} {K : Act → World → Prop} {Q : Exit → Act → World → Prop} (x y : Operand) (ho : o.op = .buildSlice 44 2 #[(0, x), (1, y)]) (a b : M13) (hx : A.eval x = .agg (mv a)) (hy : A.eval y = .agg (mv b))
    (hK : K (A.put o.dst (.slice (some ⟨w.heap.size, 0, none⟩) 2 2)) (w.alloc (.cells (lits [a, b]) 32))) : o.wp Tryd.prog A w K Q := by
  have hr := run_build2 a b w
  unfold Oper.wp
  simp [execOp, ho, hx, hy, hr, Result.andThen]
  exact hK
theorem wpList_build2 {w : World} {ops : Array Oper} {rest : List Oper} {o : Oper} {A : Act} {Q : Exit → Act → World → Prop} (hgd : o.guard = none) (x y : Operand) (ho : o.op = .buildSlice 44 2 #[(0, x), (1, y)]) (a b : M13) (hx : A.eval x = .agg (mv a)) (hy : A.eval y = .agg (mv b))
    (hK : wpList Tryd.prog ops Q rest (A.put o.dst (.slice (some ⟨w.heap.size, 0, none⟩) 2 2)) (w.alloc (.cells (lits [a, b]) 32))) : wpList Tryd.prog ops Q (o :: rest) A w :=
  wpList_plain hgd fun _ h => wp_build2 x y ho a b hx hy (h _ _ hK)
theorem step_build2 {w : World} {ops : Array Oper} {o : Oper} {A : Act} {K : Act → World → Prop} {Q : Exit → Act → World → Prop} {E : Prop} (hgd : o.guard = none) (x y : Operand) (ho : o.op = .buildSlice 44 2 #[(0, x), (1, y)]) (a b : M13) (hx : A.eval x = .agg (mv a)) (hy : A.eval y = .agg (mv b))
    (hK : K (A.put o.dst (.slice (some ⟨w.heap.size, 0, none⟩) 2 2)) (w.alloc (.cells (lits [a, b]) 32))) : if Region.wanted o (yielded ops A.tmps) = true then Oper.wp Tryd.prog o A w K Q else E := by
  have hw : Region.wanted o (yielded ops A.tmps) = true := by simp [Region.wanted, hgd]
  rw [if_pos hw]
  exact wp_build2 x y ho a b hx hy hK

set_option maxRecDepth 20000 in
theorem run_build3 (a b c : M13) (w : World) : (Instr.buildSlice 44 3 #[(0, .agg (mv a)), (1, .agg (mv b)), (2, .agg (mv c))]).run Tryd.prog w = .ok (.slice (some ⟨w.heap.size, 0, none⟩) 3 3) (w.alloc (.cells (lits [a, b, c]) 32)) := by
  obtain ⟨a0, a1, a2, a3, a4, a5, a6, a7, a8, a9, a10, a11, a12⟩ := a
  obtain ⟨b0, b1, b2, b3, b4, b5, b6, b7, b8, b9, b10, b11, b12⟩ := b
  obtain ⟨c0, c1, c2, c3, c4, c5, c6, c7, c8, c9, c10, c11, c12⟩ := c
  simp only [mv_eq, lits, mc_eq, List.map_cons, List.map_nil, List.flatten_cons, List.flatten_nil, List.cons_append, List.nil_append, List.append_nil]
  go_simp
theorem wp_build3 {w : World} {o : Oper} {A : Act} {K : Act → World → Prop} {Q : Exit → Act → World → Prop} (x y z : Operand) (ho : o.op = .buildSlice 44 3 #[(0, x), (1, y), (2, z)]) (a b c : M13) (hx : A.eval x = .agg (mv a)) (hy : A.eval y = .agg (mv b)) (hz : A.eval z = .agg (mv c))
    (hK : K (A.put o.dst (.slice (some ⟨w.heap.size, 0, none⟩) 3 3)) (w.alloc (.cells (lits [a, b, c]) 32))) : o.wp Tryd.prog A w K Q := by
  have hr := run_build3 a b c w
  unfold Oper.wp
  simp [execOp, ho, hx, hy, hz, hr, Result.andThen]
  exact hK
theorem wpList_build3 {w : World} {ops : Array Oper} {rest : List Oper} {o : Oper} {A : Act} {Q : Exit → Act → World → Prop} (hgd : o.guard = none) (x y z : Operand) (ho : o.op = .buildSlice 44 3 #[(0, x), (1, y), (2, z)]) (a b c : M13) (hx : A.eval x = .agg (mv a)) (hy : A.eval y = .agg (mv b)) (hz : A.eval z = .agg (mv c))
    (hK : wpList Tryd.prog ops Q rest (A.put o.dst (.slice (some ⟨w.heap.size, 0, none⟩) 3 3)) (w.alloc (.cells (lits [a, b, c]) 32))) : wpList Tryd.prog ops Q (o :: rest) A w :=
  wpList_plain hgd fun _ h => wp_build3 x y z ho a b c hx hy hz (h _ _ hK)
theorem step_build3 {w : World} {ops : Array Oper} {o : Oper} {A : Act} {K : Act → World → Prop} {Q : Exit → Act → World → Prop} {E : Prop} (hgd : o.guard = none) (x y z : Operand) (ho : o.op = .buildSlice 44 3 #[(0, x), (1, y), (2, z)]) (a b c : M13) (hx : A.eval x = .agg (mv a)) (hy : A.eval y = .agg (mv b)) (hz : A.eval z = .agg (mv c))
    (hK : K (A.put o.dst (.slice (some ⟨w.heap.size, 0, none⟩) 3 3)) (w.alloc (.cells (lits [a, b, c]) 32))) : if Region.wanted o (yielded ops A.tmps) = true then Oper.wp Tryd.prog o A w K Q else E := by
  have hw : Region.wanted o (yielded ops A.tmps) = true := by simp [Region.wanted, hgd]
  rw [if_pos hw]
  exact wp_build3 x y z ho a b c hx hy hz hK

set_option maxRecDepth 20000 in
theorem run_build4 (a b c d : M13) (w : World) : (Instr.buildSlice 44 4 #[(0, .agg (mv a)), (1, .agg (mv b)), (2, .agg (mv c)), (3, .agg (mv d))]).run Tryd.prog w = .ok (.slice (some ⟨w.heap.size, 0, none⟩) 4 4) (w.alloc (.cells (lits [a, b, c, d]) 32)) := by
  obtain ⟨a0, a1, a2, a3, a4, a5, a6, a7, a8, a9, a10, a11, a12⟩ := a
  obtain ⟨b0, b1, b2, b3, b4, b5, b6, b7, b8, b9, b10, b11, b12⟩ := b
  obtain ⟨c0, c1, c2, c3, c4, c5, c6, c7, c8, c9, c10, c11, c12⟩ := c
  obtain ⟨d0, d1, d2, d3, d4, d5, d6, d7, d8, d9, d10, d11, d12⟩ := d
  simp only [mv_eq, lits, mc_eq, List.map_cons, List.map_nil, List.flatten_cons, List.flatten_nil, List.cons_append, List.nil_append, List.append_nil]
  go_simp
theorem wp_build4 {w : World} {o : Oper} {A : Act} {K : Act → World → Prop} {Q : Exit → Act → World → Prop} (x y z u : Operand) (ho : o.op = .buildSlice 44 4 #[(0, x), (1, y), (2, z), (3, u)]) (a b c d : M13) (hx : A.eval x = .agg (mv a)) (hy : A.eval y = .agg (mv b)) (hz : A.eval z = .agg (mv c)) (hu : A.eval u = .agg (mv d))
    (hK : K (A.put o.dst (.slice (some ⟨w.heap.size, 0, none⟩) 4 4)) (w.alloc (.cells (lits [a, b, c, d]) 32))) : o.wp Tryd.prog A w K Q := by
  have hr := run_build4 a b c d w
  unfold Oper.wp
  simp [execOp, ho, hx, hy, hz, hu, hr, Result.andThen]
  exact hK
theorem wpList_build4 {w : World} {ops : Array Oper} {rest : List Oper} {o : Oper} {A : Act} {Q : Exit → Act → World → Prop} (hgd : o.guard = none) (x y z u : Operand) (ho : o.op = .buildSlice 44 4 #[(0, x), (1, y), (2, z), (3, u)]) (a b c d : M13) (hx : A.eval x = .agg (mv a)) (hy : A.eval y = .agg (mv b)) (hz : A.eval z = .agg (mv c)) (hu : A.eval u = .agg (mv d))
    (hK : wpList Tryd.prog ops Q rest (A.put o.dst (.slice (some ⟨w.heap.size, 0, none⟩) 4 4)) (w.alloc (.cells (lits [a, b, c, d]) 32))) : wpList Tryd.prog ops Q (o :: rest) A w :=
  wpList_plain hgd fun _ h => wp_build4 x y z u ho a b c d hx hy hz hu (h _ _ hK)
theorem step_build4 {w : World} {ops : Array Oper} {o : Oper} {A : Act} {K : Act → World → Prop} {Q : Exit → Act → World → Prop} {E : Prop} (hgd : o.guard = none) (x y z u : Operand) (ho : o.op = .buildSlice 44 4 #[(0, x), (1, y), (2, z), (3, u)]) (a b c d : M13) (hx : A.eval x = .agg (mv a)) (hy : A.eval y = .agg (mv b)) (hz : A.eval z = .agg (mv c)) (hu : A.eval u = .agg (mv d))
    (hK : K (A.put o.dst (.slice (some ⟨w.heap.size, 0, none⟩) 4 4)) (w.alloc (.cells (lits [a, b, c, d]) 32))) : if Region.wanted o (yielded ops A.tmps) = true then Oper.wp Tryd.prog o A w K Q else E := by
  have hw : Region.wanted o (yielded ops A.tmps) = true := by simp [Region.wanted, hgd]
  rw [if_pos hw]
  exact wp_build4 x y z u ho a b c d hx hy hz hu hK

end Go.Proofs.YtakomlmbdienpaaDoor

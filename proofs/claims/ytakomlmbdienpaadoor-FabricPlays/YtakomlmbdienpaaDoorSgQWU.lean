/- DERIVED of the program: the document's own Right by its contract, a text a kind. Own work. -/
import Derived.Test.YtakomlmbdienpaaDoorSgQR
namespace Go.Proofs.YtakomlmbdienpaaDoor
open Go.RowKit Go.Extern.Stop Go.Stop Go.Extern

set_option linter.unusedVariables false in
set_option maxHeartbeats 12800000 in
set_option maxRecDepth 20000 in
theorem qsRight_U3 (w : World) (c l t o e w_ v d0 d1 d2 d3 : Int) (h : Bool) :
    Calls Tryd.prog 37 #[.agg #[.int .i64 3, .int .i64 c, .int .i64 l, .int .i64 t, .int .i64 o, .int .i64 e, .int .i64 w_, .int .u32 v, .int .u32 d0, .int .u32 d1, .int .u32 d2, .int .u32 d3, .bool h]] w fun r w' => r = .returned (.bool (rtB (3, c, l, t, o, e, w_, v, d0, d1, d2, d3, h))) ∧ Below w.heap.size w w' := by
  have HS0 : Hid (SM2 w #[.int .i64 3, .int .i64 c, .int .i64 l, .int .i64 t, .int .i64 o, .int .i64 e, .int .i64 w_, .int .u32 v, .int .u32 d0, .int .u32 d1, .int .u32 d2, .int .u32 d3, .bool h] #[.int .i64 3, .int .i64 c, .int .i64 l, .int .i64 0, .int .i64 0, .int .i64 0, .int .i64 0, .int .u32 0, .int .u32 0, .int .u32 0, .int .u32 0, .int .u32 0, .bool false] ((w.alloc (.cells #[.int .i64 3, .int .i64 c, .int .i64 l, .int .i64 t, .int .i64 o, .int .i64 e, .int .i64 w_, .int .u32 v, .int .u32 d0, .int .u32 d1, .int .u32 d2, .int .u32 d3, .bool h] 32)).alloc (.cells #[.int .i64 3, .int .i64 c, .int .i64 l, .int .i64 0, .int .i64 0, .int .i64 0, .int .i64 0, .int .u32 0, .int .u32 0, .int .u32 0, .int .u32 0, .int .u32 0, .bool false] 32))) := Hid.in (SM2.start _ _ _)
  have hA := heap_alloc_new w (.cells #[.int .i64 3, .int .i64 c, .int .i64 l, .int .i64 t, .int .i64 o, .int .i64 e, .int .i64 w_, .int .u32 v, .int .u32 d0, .int .u32 d1, .int .u32 d2, .int .u32 d3, .bool h] 32)
  have x0 : (w.alloc (.cells #[.int .i64 3, .int .i64 c, .int .i64 l, .int .i64 t, .int .i64 o, .int .i64 e, .int .i64 w_, .int .u32 v, .int .u32 d0, .int .u32 d1, .int .u32 d2, .int .u32 d3, .bool h] 32)).cell? ⟨w.heap.size, 0, none⟩ = some (.int .i64 3) := blk_cell hA rfl
  have x1 : (w.alloc (.cells #[.int .i64 3, .int .i64 c, .int .i64 l, .int .i64 t, .int .i64 o, .int .i64 e, .int .i64 w_, .int .u32 v, .int .u32 d0, .int .u32 d1, .int .u32 d2, .int .u32 d3, .bool h] 32)).cell? ⟨w.heap.size, 1, none⟩ = some (.int .i64 c) := blk_cell hA rfl
  have x2 : (w.alloc (.cells #[.int .i64 3, .int .i64 c, .int .i64 l, .int .i64 t, .int .i64 o, .int .i64 e, .int .i64 w_, .int .u32 v, .int .u32 d0, .int .u32 d1, .int .u32 d2, .int .u32 d3, .bool h] 32)).cell? ⟨w.heap.size, 2, none⟩ = some (.int .i64 l) := blk_cell hA rfl
  have x3 : (w.alloc (.cells #[.int .i64 3, .int .i64 c, .int .i64 l, .int .i64 t, .int .i64 o, .int .i64 e, .int .i64 w_, .int .u32 v, .int .u32 d0, .int .u32 d1, .int .u32 d2, .int .u32 d3, .bool h] 32)).cell? ⟨w.heap.size, 3, none⟩ = some (.int .i64 t) := blk_cell hA rfl
  have x4 : (w.alloc (.cells #[.int .i64 3, .int .i64 c, .int .i64 l, .int .i64 t, .int .i64 o, .int .i64 e, .int .i64 w_, .int .u32 v, .int .u32 d0, .int .u32 d1, .int .u32 d2, .int .u32 d3, .bool h] 32)).cell? ⟨w.heap.size, 4, none⟩ = some (.int .i64 o) := blk_cell hA rfl
  have x5 : (w.alloc (.cells #[.int .i64 3, .int .i64 c, .int .i64 l, .int .i64 t, .int .i64 o, .int .i64 e, .int .i64 w_, .int .u32 v, .int .u32 d0, .int .u32 d1, .int .u32 d2, .int .u32 d3, .bool h] 32)).cell? ⟨w.heap.size, 5, none⟩ = some (.int .i64 e) := blk_cell hA rfl
  have x6 : (w.alloc (.cells #[.int .i64 3, .int .i64 c, .int .i64 l, .int .i64 t, .int .i64 o, .int .i64 e, .int .i64 w_, .int .u32 v, .int .u32 d0, .int .u32 d1, .int .u32 d2, .int .u32 d3, .bool h] 32)).cell? ⟨w.heap.size, 6, none⟩ = some (.int .i64 w_) := blk_cell hA rfl
  have x7 : (w.alloc (.cells #[.int .i64 3, .int .i64 c, .int .i64 l, .int .i64 t, .int .i64 o, .int .i64 e, .int .i64 w_, .int .u32 v, .int .u32 d0, .int .u32 d1, .int .u32 d2, .int .u32 d3, .bool h] 32)).cell? ⟨w.heap.size, 7, none⟩ = some (.int .u32 v) := blk_cell hA rfl
  have x8 : (w.alloc (.cells #[.int .i64 3, .int .i64 c, .int .i64 l, .int .i64 t, .int .i64 o, .int .i64 e, .int .i64 w_, .int .u32 v, .int .u32 d0, .int .u32 d1, .int .u32 d2, .int .u32 d3, .bool h] 32)).cell? ⟨w.heap.size, 8, none⟩ = some (.int .u32 d0) := blk_cell hA rfl
  have x9 : (w.alloc (.cells #[.int .i64 3, .int .i64 c, .int .i64 l, .int .i64 t, .int .i64 o, .int .i64 e, .int .i64 w_, .int .u32 v, .int .u32 d0, .int .u32 d1, .int .u32 d2, .int .u32 d3, .bool h] 32)).cell? ⟨w.heap.size, 9, none⟩ = some (.int .u32 d1) := blk_cell hA rfl
  have x10 : (w.alloc (.cells #[.int .i64 3, .int .i64 c, .int .i64 l, .int .i64 t, .int .i64 o, .int .i64 e, .int .i64 w_, .int .u32 v, .int .u32 d0, .int .u32 d1, .int .u32 d2, .int .u32 d3, .bool h] 32)).cell? ⟨w.heap.size, 10, none⟩ = some (.int .u32 d2) := blk_cell hA rfl
  have x11 : (w.alloc (.cells #[.int .i64 3, .int .i64 c, .int .i64 l, .int .i64 t, .int .i64 o, .int .i64 e, .int .i64 w_, .int .u32 v, .int .u32 d0, .int .u32 d1, .int .u32 d2, .int .u32 d3, .bool h] 32)).cell? ⟨w.heap.size, 11, none⟩ = some (.int .u32 d3) := blk_cell hA rfl
  have x12 : (w.alloc (.cells #[.int .i64 3, .int .i64 c, .int .i64 l, .int .i64 t, .int .i64 o, .int .i64 e, .int .i64 w_, .int .u32 v, .int .u32 d0, .int .u32 d1, .int .u32 d2, .int .u32 d3, .bool h] 32)).cell? ⟨w.heap.size, 12, none⟩ = some (.bool h) := blk_cell hA rfl
  clear hA
  go_enter Tryd.func37, Tryd.ntmps37
  go_upto_region 2 with fail
  generalize hX : ((w.alloc (.cells #[.int .i64 3, .int .i64 c, .int .i64 l, .int .i64 t, .int .i64 o, .int .i64 e, .int .i64 w_, .int .u32 v, .int .u32 d0, .int .u32 d1, .int .u32 d2, .int .u32 d3, .bool h] 32)).alloc (.cells #[.int .i64 3, .int .i64 c, .int .i64 l, .int .i64 0, .int .i64 0, .int .i64 0, .int .i64 0, .int .u32 0, .int .u32 0, .int .u32 0, .int .u32 0, .int .u32 0, .bool false] 32)) = W0 at *
  clear hX x0 x1 x2 x3 x4 x5 x6 x7 x8 x9 x10 x11 x12
  have p0 : W0.cell? ⟨w.heap.size, 0, none⟩ = some (.int .i64 3) := blk_cell HS0.out.bA rfl
  go_upto_region 16 with fail
  clear p0
  have HS1 : Hid (SM2 w #[.int .i64 3, .int .i64 c, .int .i64 l, .int .i64 t, .int .i64 o, .int .i64 e, .int .i64 w_, .int .u32 v, .int .u32 d0, .int .u32 d1, .int .u32 d2, .int .u32 d3, .bool h] #[.int .i64 3, .int .i64 c, .int .i64 l, .int .i64 0, .int .i64 0, .int .i64 0, .int .i64 0, .int .u32 0, .int .u32 0, .int .u32 0, .int .u32 0, .int .u32 0, .bool false] W0.drew) := Hid.in (HS0.out.step (Below.refl _ _).drew)
  have HS : Hid (SMA w #[.int .i64 3, .int .i64 c, .int .i64 l, .int .i64 t, .int .i64 o, .int .i64 e, .int .i64 w_, .int .u32 v, .int .u32 d0, .int .u32 d1, .int .u32 d2, .int .u32 d3, .bool h] W0.drew) := Hid.in ⟨HS1.out.bA, HS1.out.be⟩
  have HFA : Hid (∀ W, SMA w #[.int .i64 3, .int .i64 c, .int .i64 l, .int .i64 t, .int .i64 o, .int .i64 e, .int .i64 w_, .int .u32 v, .int .u32 d0, .int .u32 d1, .int .u32 d2, .int .u32 d3, .bool h] W → W.cell? ⟨w.heap.size, 0, none⟩ = some (.int .i64 3) ∧ W.cell? ⟨w.heap.size, 1, none⟩ = some (.int .i64 c) ∧ W.cell? ⟨w.heap.size, 2, none⟩ = some (.int .i64 l) ∧ W.cell? ⟨w.heap.size, 3, none⟩ = some (.int .i64 t) ∧ W.cell? ⟨w.heap.size, 4, none⟩ = some (.int .i64 o) ∧ W.cell? ⟨w.heap.size, 5, none⟩ = some (.int .i64 e) ∧ W.cell? ⟨w.heap.size, 6, none⟩ = some (.int .i64 w_) ∧ W.cell? ⟨w.heap.size, 7, none⟩ = some (.int .u32 v) ∧ W.cell? ⟨w.heap.size, 8, none⟩ = some (.int .u32 d0) ∧ W.cell? ⟨w.heap.size, 9, none⟩ = some (.int .u32 d1) ∧ W.cell? ⟨w.heap.size, 10, none⟩ = some (.int .u32 d2) ∧ W.cell? ⟨w.heap.size, 11, none⟩ = some (.int .u32 d3) ∧ W.cell? ⟨w.heap.size, 12, none⟩ = some (.bool h)) := Hid.in (fun W h => ⟨blk_cell h.bA rfl, blk_cell h.bA rfl, blk_cell h.bA rfl, blk_cell h.bA rfl, blk_cell h.bA rfl, blk_cell h.bA rfl, blk_cell h.bA rfl, blk_cell h.bA rfl, blk_cell h.bA rfl, blk_cell h.bA rfl, blk_cell h.bA rfl, blk_cell h.bA rfl, blk_cell h.bA rfl⟩)
  clear HS0
  refine wp_region_but (SMA w #[.int .i64 3, .int .i64 c, .int .i64 l, .int .i64 t, .int .i64 o, .int .i64 e, .int .i64 w_, .int .u32 v, .int .u32 d0, .int .u32 d1, .int .u32 d2, .int .u32 d3, .bool h]) 7 (by kernel_rfl) ?_
  generalize hX : W0.drew = V0 at *
  clear hX
  refine wpBut_take (i := 0) (v := ?_) rfl (by kernel_rfl) (by kernel_rfl) (by exact fun _ _ _ h => h) HS.out (Or.inl ⟨by rfl, ?_⟩) ?_
  case refine_2 => (intro W _; go_simp; try with_reducible rfl)
  simp only [Act.put, List.setIfInBounds_toArray, List.set_cons_zero, List.set_cons_succ]
  refine wpBut_take (i := 1) (v := ?_) rfl (by kernel_rfl) (by kernel_rfl) (by exact fun _ _ _ h => h) HS.out (Or.inl ⟨by rfl, ?_⟩) ?_
  case refine_2 => (intro W hSw; obtain ⟨s0, s1, s2, s3, s4, s5, s6, s7, s8, s9, s10, s11, s12⟩ := HFA.out W hSw; go_simp; try with_reducible rfl)
  simp only [Act.put, List.setIfInBounds_toArray, List.set_cons_zero, List.set_cons_succ]
  refine wpBut_take (i := 2) (v := ?_) rfl (by kernel_rfl) (by kernel_rfl) (by exact fun _ _ _ h => h) HS.out (Or.inl ⟨by rfl, ?_⟩) ?_
  case refine_2 => (intro W _; go_simp; try with_reducible rfl)
  simp only [Act.put, List.setIfInBounds_toArray, List.set_cons_zero, List.set_cons_succ]
  refine wpBut_take (i := 3) (v := ?_) rfl (by kernel_rfl) (by kernel_rfl) (by exact fun _ _ _ h => h) HS.out (Or.inl ⟨by rfl, ?_⟩) ?_
  case refine_2 => (intro W hSw; obtain ⟨s0, s1, s2, s3, s4, s5, s6, s7, s8, s9, s10, s11, s12⟩ := HFA.out W hSw; go_simp; try with_reducible rfl)
  simp only [Act.put, List.setIfInBounds_toArray, List.set_cons_zero, List.set_cons_succ]
  refine wpBut_take (i := 4) (v := ?_) rfl (by kernel_rfl) (by kernel_rfl) (by exact fun _ _ _ h => h) HS.out (Or.inl ⟨by rfl, ?_⟩) ?_
  case refine_2 => (intro W _; go_simp; try with_reducible rfl)
  simp only [Act.put, List.setIfInBounds_toArray, List.set_cons_zero, List.set_cons_succ]
  have z6 : V0.cell? ⟨w.heap.size + 1, 6, none⟩ = some (.int .i64 0) := blk_cell HS1.out.bB rfl
  have y6 : V0.frozen? ⟨w.heap.size + 1, 6, none⟩ = false := blk_free HS1.out.bB
  have HS2 : Hid (SM2 w #[.int .i64 3, .int .i64 c, .int .i64 l, .int .i64 t, .int .i64 o, .int .i64 e, .int .i64 w_, .int .u32 v, .int .u32 d0, .int .u32 d1, .int .u32 d2, .int .u32 d3, .bool h] #[.int .i64 3, .int .i64 c, .int .i64 l, .int .i64 0, .int .i64 0, .int .i64 0, .int .i64 w_, .int .u32 0, .int .u32 0, .int .u32 0, .int .u32 0, .int .u32 0, .bool false] (V0.setCell ⟨w.heap.size + 1, 6, none⟩ (.int .i64 w_))) := Hid.in (HS1.out.set 6 (.int .i64 w_))
  refine wpBut_one (i := 5) rfl (by kernel_rfl) (fun K HK => ?_)
  go_simp
  generalize hX : (V0.setCell ⟨w.heap.size + 1, 6, none⟩ (.int .i64 w_)) = V1 at *
  clear hX HS HS1 z6 y6
  have HS1 := HS2
  clear HS2
  have HS : Hid (SMA w #[.int .i64 3, .int .i64 c, .int .i64 l, .int .i64 t, .int .i64 o, .int .i64 e, .int .i64 w_, .int .u32 v, .int .u32 d0, .int .u32 d1, .int .u32 d2, .int .u32 d3, .bool h] V1) := Hid.in ⟨HS1.out.bA, HS1.out.be⟩
  refine HK.out _ _ (fun _ => HS.out) ?_
  clear HK K
  try simp only [Act.put, List.setIfInBounds_toArray, List.set_cons_zero, List.set_cons_succ]
  refine wpBut_take (i := 6) (v := ?_) rfl (by kernel_rfl) (by kernel_rfl) (by exact fun _ _ _ h => h) HS.out (Or.inl ⟨by rfl, ?_⟩) ?_
  case refine_2 => (intro W _; go_simp; try with_reducible rfl)
  simp only [Act.put, List.setIfInBounds_toArray, List.set_cons_zero, List.set_cons_succ]
  have z7 : V1.cell? ⟨w.heap.size + 1, 7, none⟩ = some (.int .u32 0) := blk_cell HS1.out.bB rfl
  have y7 : V1.frozen? ⟨w.heap.size + 1, 7, none⟩ = false := blk_free HS1.out.bB
  have HS2 : Hid (SM2 w #[.int .i64 3, .int .i64 c, .int .i64 l, .int .i64 t, .int .i64 o, .int .i64 e, .int .i64 w_, .int .u32 v, .int .u32 d0, .int .u32 d1, .int .u32 d2, .int .u32 d3, .bool h] #[.int .i64 3, .int .i64 c, .int .i64 l, .int .i64 0, .int .i64 0, .int .i64 0, .int .i64 w_, .int .u32 v, .int .u32 0, .int .u32 0, .int .u32 0, .int .u32 0, .bool false] (V1.setCell ⟨w.heap.size + 1, 7, none⟩ (.int .u32 v))) := Hid.in (HS1.out.set 7 (.int .u32 v))
  refine wpBut_one (i := 7) rfl (by kernel_rfl) (fun K HK => ?_)
  go_simp
  generalize hX : (V1.setCell ⟨w.heap.size + 1, 7, none⟩ (.int .u32 v)) = W1 at *
  clear hX HS HS1 z7 y7
  have HS0 := HS2
  clear HS2 HFA
  refine HK.out _ _ (fun h => absurd rfl h) ?_
  clear HK K
  try simp only [Act.put, List.setIfInBounds_toArray, List.set_cons_zero, List.set_cons_succ]
  refine wpBut_done (by kernel_rfl) ?_ _
  have x0 : W1.cell? ⟨w.heap.size, 0, none⟩ = some (.int .i64 3) := blk_cell HS0.out.bA rfl
  have x1 : W1.cell? ⟨w.heap.size, 1, none⟩ = some (.int .i64 c) := blk_cell HS0.out.bA rfl
  have x2 : W1.cell? ⟨w.heap.size, 2, none⟩ = some (.int .i64 l) := blk_cell HS0.out.bA rfl
  have x3 : W1.cell? ⟨w.heap.size, 3, none⟩ = some (.int .i64 t) := blk_cell HS0.out.bA rfl
  have x4 : W1.cell? ⟨w.heap.size, 4, none⟩ = some (.int .i64 o) := blk_cell HS0.out.bA rfl
  have x5 : W1.cell? ⟨w.heap.size, 5, none⟩ = some (.int .i64 e) := blk_cell HS0.out.bA rfl
  have x6 : W1.cell? ⟨w.heap.size, 6, none⟩ = some (.int .i64 w_) := blk_cell HS0.out.bA rfl
  have x7 : W1.cell? ⟨w.heap.size, 7, none⟩ = some (.int .u32 v) := blk_cell HS0.out.bA rfl
  have x8 : W1.cell? ⟨w.heap.size, 8, none⟩ = some (.int .u32 d0) := blk_cell HS0.out.bA rfl
  have x9 : W1.cell? ⟨w.heap.size, 9, none⟩ = some (.int .u32 d1) := blk_cell HS0.out.bA rfl
  have x10 : W1.cell? ⟨w.heap.size, 10, none⟩ = some (.int .u32 d2) := blk_cell HS0.out.bA rfl
  have x11 : W1.cell? ⟨w.heap.size, 11, none⟩ = some (.int .u32 d3) := blk_cell HS0.out.bA rfl
  have x12 : W1.cell? ⟨w.heap.size, 12, none⟩ = some (.bool h) := blk_cell HS0.out.bA rfl
  have y0 : W1.cell? ⟨w.heap.size + 1, 0, none⟩ = some (.int .i64 3) := blk_cell HS0.out.bB rfl
  have y1 : W1.cell? ⟨w.heap.size + 1, 1, none⟩ = some (.int .i64 c) := blk_cell HS0.out.bB rfl
  have y2 : W1.cell? ⟨w.heap.size + 1, 2, none⟩ = some (.int .i64 l) := blk_cell HS0.out.bB rfl
  have y3 : W1.cell? ⟨w.heap.size + 1, 3, none⟩ = some (.int .i64 0) := blk_cell HS0.out.bB rfl
  have y4 : W1.cell? ⟨w.heap.size + 1, 4, none⟩ = some (.int .i64 0) := blk_cell HS0.out.bB rfl
  have y5 : W1.cell? ⟨w.heap.size + 1, 5, none⟩ = some (.int .i64 0) := blk_cell HS0.out.bB rfl
  have y6 : W1.cell? ⟨w.heap.size + 1, 6, none⟩ = some (.int .i64 w_) := blk_cell HS0.out.bB rfl
  have y7 : W1.cell? ⟨w.heap.size + 1, 7, none⟩ = some (.int .u32 v) := blk_cell HS0.out.bB rfl
  have y8 : W1.cell? ⟨w.heap.size + 1, 8, none⟩ = some (.int .u32 0) := blk_cell HS0.out.bB rfl
  have y9 : W1.cell? ⟨w.heap.size + 1, 9, none⟩ = some (.int .u32 0) := blk_cell HS0.out.bB rfl
  have y10 : W1.cell? ⟨w.heap.size + 1, 10, none⟩ = some (.int .u32 0) := blk_cell HS0.out.bB rfl
  have y11 : W1.cell? ⟨w.heap.size + 1, 11, none⟩ = some (.int .u32 0) := blk_cell HS0.out.bB rfl
  have y12 : W1.cell? ⟨w.heap.size + 1, 12, none⟩ = some (.bool false) := blk_cell HS0.out.bB rfl
  have hp := qsPool_any 3
  have he := fun w => eq_msgIn' (3, c, l, t, o, e, w_, v, d0, d1, d2, d3, h) (3, c, l, 0, 0, 0, w_, v, 0, 0, 0, 0, false) w
  simp only [mv] at he
  have HMK : Hid (maskM (3, c, l, t, o, e, w_, v, d0, d1, d2, d3, h) = (3, c, l, 0, 0, 0, w_, v, 0, 0, 0, 0, false)) := Hid.in (rfl)
  rw [show poolS 3 = 0 from by decide] at hp
  have hpk : (1 : Int) ≤ 3 ∧ (3 : Int) ≤ 15 := by decide
  rcases hb : eqB (3, c, l, t, o, e, w_, v, d0, d1, d2, d3, h) (3, c, l, 0, 0, 0, w_, v, 0, 0, 0, 0, false) with _ | _
  · rw [hb] at he
    have HRF := Hid.in (rtB_no (3, c, l, t, o, e, w_, v, d0, d1, d2, d3, h) (fun hr => by have h1 := mask_eq _ hr; rw [HMK.out] at h1; have h2 := (eqB_iff (3, c, l, t, o, e, w_, v, d0, d1, d2, d3, h) (3, c, l, 0, 0, 0, w_, v, 0, 0, 0, 0, false)).2 h1.symm; rw [hb] at h2; cases h2))
    go_wp2_with fail
    refine (hp _).mono ?_
    rintro r w0 ⟨rfl, rfl⟩
    go_wp2
    go_ret
    exact ⟨by rw [HRF.out]; first | rfl | simp_all, HS0.out.be⟩
  rw [hb] at he
  have HB := Hid.in hb
  clear hb
  by_cases hq : (0 ≤ c ∧ c ≤ 63) ∧ (0 ≤ l ∧ l ≤ 31) ∧ (0 ≤ w_ ∧ w_ ≤ 3) ∧ (0 ≤ o ∧ o ≤ 3) ∧ (0 ≤ e ∧ e ≤ 255) ∧ (0 ≤ t ∧ t ≤ 4)
  rotate_left
  · skip
    have HRF := Hid.in (rtB_no (3, c, l, t, o, e, w_, v, d0, d1, d2, d3, h) (fun hr => hq (by simp only [rtP] at hr; omega)))
    go_wp2_with fail
    refine (hp _).mono ?_
    rintro r w0 ⟨rfl, rfl⟩
    go_wp2
    all_goals (first | (exfalso; omega) | (go_ret; exact ⟨by rw [HRF.out]; first | rfl | simp_all, HS0.out.be⟩))
  obtain ⟨⟨q0, q1⟩, ⟨q2, q3⟩, ⟨q4, q5⟩, ⟨q6, q7⟩, ⟨q8, q9⟩, q10, q11⟩ := hq
  have HR : Hid (((3 : Int) = 13 → ¬ t = 0 ∧ ¬ t = 3) → rtP (3, c, l, t, o, e, w_, v, d0, d1, d2, d3, h)) := Hid.in (fun e2 => rt_of_mask 3 c l t o e w_ v d0 d1 d2 d3 h (by rw [HMK.out]; exact ((eqB_iff _ _).1 HB.out).symm) hpk (by omega) (by omega) (by omega) (by omega) (by omega) (by omega) (fun h => by omega) e2)
  have HRF := Hid.in ((rtB_iff _).2 (HR.out (fun e => by omega)))
  go_wp2_with fail
  refine (hp _).mono ?_
  rintro r w0 ⟨rfl, rfl⟩
  go_wp2
  go_ret
  exact ⟨by rw [HRF.out]; first | rfl | simp_all, HS0.out.be⟩

end Go.Proofs.YtakomlmbdienpaaDoor

namespace Go.Proofs.YtakomlmbdienpaaDoor
open Go.RowKit Go.Extern.Stop Go.Stop Go.Extern

set_option linter.unusedVariables false in
set_option maxHeartbeats 12800000 in
set_option maxRecDepth 20000 in
theorem qsRight_U8 (w : World) (c l t o e w_ v d0 d1 d2 d3 : Int) (h : Bool) :
    Calls Tryd.prog 37 #[.agg #[.int .i64 8, .int .i64 c, .int .i64 l, .int .i64 t, .int .i64 o, .int .i64 e, .int .i64 w_, .int .u32 v, .int .u32 d0, .int .u32 d1, .int .u32 d2, .int .u32 d3, .bool h]] w fun r w' => r = .returned (.bool (rtB (8, c, l, t, o, e, w_, v, d0, d1, d2, d3, h))) ∧ Below w.heap.size w w' := by
  have HS0 : Hid (SM2 w #[.int .i64 8, .int .i64 c, .int .i64 l, .int .i64 t, .int .i64 o, .int .i64 e, .int .i64 w_, .int .u32 v, .int .u32 d0, .int .u32 d1, .int .u32 d2, .int .u32 d3, .bool h] #[.int .i64 8, .int .i64 c, .int .i64 l, .int .i64 0, .int .i64 0, .int .i64 0, .int .i64 0, .int .u32 0, .int .u32 0, .int .u32 0, .int .u32 0, .int .u32 0, .bool false] ((w.alloc (.cells #[.int .i64 8, .int .i64 c, .int .i64 l, .int .i64 t, .int .i64 o, .int .i64 e, .int .i64 w_, .int .u32 v, .int .u32 d0, .int .u32 d1, .int .u32 d2, .int .u32 d3, .bool h] 32)).alloc (.cells #[.int .i64 8, .int .i64 c, .int .i64 l, .int .i64 0, .int .i64 0, .int .i64 0, .int .i64 0, .int .u32 0, .int .u32 0, .int .u32 0, .int .u32 0, .int .u32 0, .bool false] 32))) := Hid.in (SM2.start _ _ _)
  have hA := heap_alloc_new w (.cells #[.int .i64 8, .int .i64 c, .int .i64 l, .int .i64 t, .int .i64 o, .int .i64 e, .int .i64 w_, .int .u32 v, .int .u32 d0, .int .u32 d1, .int .u32 d2, .int .u32 d3, .bool h] 32)
  have x0 : (w.alloc (.cells #[.int .i64 8, .int .i64 c, .int .i64 l, .int .i64 t, .int .i64 o, .int .i64 e, .int .i64 w_, .int .u32 v, .int .u32 d0, .int .u32 d1, .int .u32 d2, .int .u32 d3, .bool h] 32)).cell? ⟨w.heap.size, 0, none⟩ = some (.int .i64 8) := blk_cell hA rfl
  have x1 : (w.alloc (.cells #[.int .i64 8, .int .i64 c, .int .i64 l, .int .i64 t, .int .i64 o, .int .i64 e, .int .i64 w_, .int .u32 v, .int .u32 d0, .int .u32 d1, .int .u32 d2, .int .u32 d3, .bool h] 32)).cell? ⟨w.heap.size, 1, none⟩ = some (.int .i64 c) := blk_cell hA rfl
  have x2 : (w.alloc (.cells #[.int .i64 8, .int .i64 c, .int .i64 l, .int .i64 t, .int .i64 o, .int .i64 e, .int .i64 w_, .int .u32 v, .int .u32 d0, .int .u32 d1, .int .u32 d2, .int .u32 d3, .bool h] 32)).cell? ⟨w.heap.size, 2, none⟩ = some (.int .i64 l) := blk_cell hA rfl
  have x3 : (w.alloc (.cells #[.int .i64 8, .int .i64 c, .int .i64 l, .int .i64 t, .int .i64 o, .int .i64 e, .int .i64 w_, .int .u32 v, .int .u32 d0, .int .u32 d1, .int .u32 d2, .int .u32 d3, .bool h] 32)).cell? ⟨w.heap.size, 3, none⟩ = some (.int .i64 t) := blk_cell hA rfl
  have x4 : (w.alloc (.cells #[.int .i64 8, .int .i64 c, .int .i64 l, .int .i64 t, .int .i64 o, .int .i64 e, .int .i64 w_, .int .u32 v, .int .u32 d0, .int .u32 d1, .int .u32 d2, .int .u32 d3, .bool h] 32)).cell? ⟨w.heap.size, 4, none⟩ = some (.int .i64 o) := blk_cell hA rfl
  have x5 : (w.alloc (.cells #[.int .i64 8, .int .i64 c, .int .i64 l, .int .i64 t, .int .i64 o, .int .i64 e, .int .i64 w_, .int .u32 v, .int .u32 d0, .int .u32 d1, .int .u32 d2, .int .u32 d3, .bool h] 32)).cell? ⟨w.heap.size, 5, none⟩ = some (.int .i64 e) := blk_cell hA rfl
  have x6 : (w.alloc (.cells #[.int .i64 8, .int .i64 c, .int .i64 l, .int .i64 t, .int .i64 o, .int .i64 e, .int .i64 w_, .int .u32 v, .int .u32 d0, .int .u32 d1, .int .u32 d2, .int .u32 d3, .bool h] 32)).cell? ⟨w.heap.size, 6, none⟩ = some (.int .i64 w_) := blk_cell hA rfl
  have x7 : (w.alloc (.cells #[.int .i64 8, .int .i64 c, .int .i64 l, .int .i64 t, .int .i64 o, .int .i64 e, .int .i64 w_, .int .u32 v, .int .u32 d0, .int .u32 d1, .int .u32 d2, .int .u32 d3, .bool h] 32)).cell? ⟨w.heap.size, 7, none⟩ = some (.int .u32 v) := blk_cell hA rfl
  have x8 : (w.alloc (.cells #[.int .i64 8, .int .i64 c, .int .i64 l, .int .i64 t, .int .i64 o, .int .i64 e, .int .i64 w_, .int .u32 v, .int .u32 d0, .int .u32 d1, .int .u32 d2, .int .u32 d3, .bool h] 32)).cell? ⟨w.heap.size, 8, none⟩ = some (.int .u32 d0) := blk_cell hA rfl
  have x9 : (w.alloc (.cells #[.int .i64 8, .int .i64 c, .int .i64 l, .int .i64 t, .int .i64 o, .int .i64 e, .int .i64 w_, .int .u32 v, .int .u32 d0, .int .u32 d1, .int .u32 d2, .int .u32 d3, .bool h] 32)).cell? ⟨w.heap.size, 9, none⟩ = some (.int .u32 d1) := blk_cell hA rfl
  have x10 : (w.alloc (.cells #[.int .i64 8, .int .i64 c, .int .i64 l, .int .i64 t, .int .i64 o, .int .i64 e, .int .i64 w_, .int .u32 v, .int .u32 d0, .int .u32 d1, .int .u32 d2, .int .u32 d3, .bool h] 32)).cell? ⟨w.heap.size, 10, none⟩ = some (.int .u32 d2) := blk_cell hA rfl
  have x11 : (w.alloc (.cells #[.int .i64 8, .int .i64 c, .int .i64 l, .int .i64 t, .int .i64 o, .int .i64 e, .int .i64 w_, .int .u32 v, .int .u32 d0, .int .u32 d1, .int .u32 d2, .int .u32 d3, .bool h] 32)).cell? ⟨w.heap.size, 11, none⟩ = some (.int .u32 d3) := blk_cell hA rfl
  have x12 : (w.alloc (.cells #[.int .i64 8, .int .i64 c, .int .i64 l, .int .i64 t, .int .i64 o, .int .i64 e, .int .i64 w_, .int .u32 v, .int .u32 d0, .int .u32 d1, .int .u32 d2, .int .u32 d3, .bool h] 32)).cell? ⟨w.heap.size, 12, none⟩ = some (.bool h) := blk_cell hA rfl
  clear hA
  go_enter Tryd.func37, Tryd.ntmps37
  go_upto_region 2 with fail
  generalize hX : ((w.alloc (.cells #[.int .i64 8, .int .i64 c, .int .i64 l, .int .i64 t, .int .i64 o, .int .i64 e, .int .i64 w_, .int .u32 v, .int .u32 d0, .int .u32 d1, .int .u32 d2, .int .u32 d3, .bool h] 32)).alloc (.cells #[.int .i64 8, .int .i64 c, .int .i64 l, .int .i64 0, .int .i64 0, .int .i64 0, .int .i64 0, .int .u32 0, .int .u32 0, .int .u32 0, .int .u32 0, .int .u32 0, .bool false] 32)) = W0 at *
  clear hX x0 x1 x2 x3 x4 x5 x6 x7 x8 x9 x10 x11 x12
  have p0 : W0.cell? ⟨w.heap.size, 0, none⟩ = some (.int .i64 8) := blk_cell HS0.out.bA rfl
  go_upto_region 16 with fail
  clear p0
  have HS1 : Hid (SM2 w #[.int .i64 8, .int .i64 c, .int .i64 l, .int .i64 t, .int .i64 o, .int .i64 e, .int .i64 w_, .int .u32 v, .int .u32 d0, .int .u32 d1, .int .u32 d2, .int .u32 d3, .bool h] #[.int .i64 8, .int .i64 c, .int .i64 l, .int .i64 0, .int .i64 0, .int .i64 0, .int .i64 0, .int .u32 0, .int .u32 0, .int .u32 0, .int .u32 0, .int .u32 0, .bool false] W0.drew) := Hid.in (HS0.out.step (Below.refl _ _).drew)
  have HS : Hid (SMA w #[.int .i64 8, .int .i64 c, .int .i64 l, .int .i64 t, .int .i64 o, .int .i64 e, .int .i64 w_, .int .u32 v, .int .u32 d0, .int .u32 d1, .int .u32 d2, .int .u32 d3, .bool h] W0.drew) := Hid.in ⟨HS1.out.bA, HS1.out.be⟩
  have HFA : Hid (∀ W, SMA w #[.int .i64 8, .int .i64 c, .int .i64 l, .int .i64 t, .int .i64 o, .int .i64 e, .int .i64 w_, .int .u32 v, .int .u32 d0, .int .u32 d1, .int .u32 d2, .int .u32 d3, .bool h] W → W.cell? ⟨w.heap.size, 0, none⟩ = some (.int .i64 8) ∧ W.cell? ⟨w.heap.size, 1, none⟩ = some (.int .i64 c) ∧ W.cell? ⟨w.heap.size, 2, none⟩ = some (.int .i64 l) ∧ W.cell? ⟨w.heap.size, 3, none⟩ = some (.int .i64 t) ∧ W.cell? ⟨w.heap.size, 4, none⟩ = some (.int .i64 o) ∧ W.cell? ⟨w.heap.size, 5, none⟩ = some (.int .i64 e) ∧ W.cell? ⟨w.heap.size, 6, none⟩ = some (.int .i64 w_) ∧ W.cell? ⟨w.heap.size, 7, none⟩ = some (.int .u32 v) ∧ W.cell? ⟨w.heap.size, 8, none⟩ = some (.int .u32 d0) ∧ W.cell? ⟨w.heap.size, 9, none⟩ = some (.int .u32 d1) ∧ W.cell? ⟨w.heap.size, 10, none⟩ = some (.int .u32 d2) ∧ W.cell? ⟨w.heap.size, 11, none⟩ = some (.int .u32 d3) ∧ W.cell? ⟨w.heap.size, 12, none⟩ = some (.bool h)) := Hid.in (fun W h => ⟨blk_cell h.bA rfl, blk_cell h.bA rfl, blk_cell h.bA rfl, blk_cell h.bA rfl, blk_cell h.bA rfl, blk_cell h.bA rfl, blk_cell h.bA rfl, blk_cell h.bA rfl, blk_cell h.bA rfl, blk_cell h.bA rfl, blk_cell h.bA rfl, blk_cell h.bA rfl, blk_cell h.bA rfl⟩)
  clear HS0
  refine wp_region_but (SMA w #[.int .i64 8, .int .i64 c, .int .i64 l, .int .i64 t, .int .i64 o, .int .i64 e, .int .i64 w_, .int .u32 v, .int .u32 d0, .int .u32 d1, .int .u32 d2, .int .u32 d3, .bool h]) 7 (by kernel_rfl) ?_
  generalize hX : W0.drew = V0 at *
  clear hX
  refine wpBut_take (i := 0) (v := ?_) rfl (by kernel_rfl) (by kernel_rfl) (by exact fun _ _ _ h => h) HS.out (Or.inl ⟨by rfl, ?_⟩) ?_
  case refine_2 => (intro W _; go_simp; try with_reducible rfl)
  simp only [Act.put, List.setIfInBounds_toArray, List.set_cons_zero, List.set_cons_succ]
  refine wpBut_take (i := 1) (v := ?_) rfl (by kernel_rfl) (by kernel_rfl) (by exact fun _ _ _ h => h) HS.out (Or.inl ⟨by rfl, ?_⟩) ?_
  case refine_2 => (intro W hSw; obtain ⟨s0, s1, s2, s3, s4, s5, s6, s7, s8, s9, s10, s11, s12⟩ := HFA.out W hSw; go_simp; try with_reducible rfl)
  simp only [Act.put, List.setIfInBounds_toArray, List.set_cons_zero, List.set_cons_succ]
  refine wpBut_take (i := 2) (v := ?_) rfl (by kernel_rfl) (by kernel_rfl) (by exact fun _ _ _ h => h) HS.out (Or.inl ⟨by rfl, ?_⟩) ?_
  case refine_2 => (intro W _; go_simp; try with_reducible rfl)
  simp only [Act.put, List.setIfInBounds_toArray, List.set_cons_zero, List.set_cons_succ]
  refine wpBut_take (i := 3) (v := ?_) rfl (by kernel_rfl) (by kernel_rfl) (by exact fun _ _ _ h => h) HS.out (Or.inl ⟨by rfl, ?_⟩) ?_
  case refine_2 => (intro W hSw; obtain ⟨s0, s1, s2, s3, s4, s5, s6, s7, s8, s9, s10, s11, s12⟩ := HFA.out W hSw; go_simp; try with_reducible rfl)
  simp only [Act.put, List.setIfInBounds_toArray, List.set_cons_zero, List.set_cons_succ]
  refine wpBut_take (i := 4) (v := ?_) rfl (by kernel_rfl) (by kernel_rfl) (by exact fun _ _ _ h => h) HS.out (Or.inl ⟨by rfl, ?_⟩) ?_
  case refine_2 => (intro W _; go_simp; try with_reducible rfl)
  simp only [Act.put, List.setIfInBounds_toArray, List.set_cons_zero, List.set_cons_succ]
  have z6 : V0.cell? ⟨w.heap.size + 1, 6, none⟩ = some (.int .i64 0) := blk_cell HS1.out.bB rfl
  have y6 : V0.frozen? ⟨w.heap.size + 1, 6, none⟩ = false := blk_free HS1.out.bB
  have HS2 : Hid (SM2 w #[.int .i64 8, .int .i64 c, .int .i64 l, .int .i64 t, .int .i64 o, .int .i64 e, .int .i64 w_, .int .u32 v, .int .u32 d0, .int .u32 d1, .int .u32 d2, .int .u32 d3, .bool h] #[.int .i64 8, .int .i64 c, .int .i64 l, .int .i64 0, .int .i64 0, .int .i64 0, .int .i64 w_, .int .u32 0, .int .u32 0, .int .u32 0, .int .u32 0, .int .u32 0, .bool false] (V0.setCell ⟨w.heap.size + 1, 6, none⟩ (.int .i64 w_))) := Hid.in (HS1.out.set 6 (.int .i64 w_))
  refine wpBut_one (i := 5) rfl (by kernel_rfl) (fun K HK => ?_)
  go_simp
  generalize hX : (V0.setCell ⟨w.heap.size + 1, 6, none⟩ (.int .i64 w_)) = V1 at *
  clear hX HS HS1 z6 y6
  have HS1 := HS2
  clear HS2
  have HS : Hid (SMA w #[.int .i64 8, .int .i64 c, .int .i64 l, .int .i64 t, .int .i64 o, .int .i64 e, .int .i64 w_, .int .u32 v, .int .u32 d0, .int .u32 d1, .int .u32 d2, .int .u32 d3, .bool h] V1) := Hid.in ⟨HS1.out.bA, HS1.out.be⟩
  refine HK.out _ _ (fun _ => HS.out) ?_
  clear HK K
  try simp only [Act.put, List.setIfInBounds_toArray, List.set_cons_zero, List.set_cons_succ]
  refine wpBut_take (i := 6) (v := ?_) rfl (by kernel_rfl) (by kernel_rfl) (by exact fun _ _ _ h => h) HS.out (Or.inl ⟨by rfl, ?_⟩) ?_
  case refine_2 => (intro W _; go_simp; try with_reducible rfl)
  simp only [Act.put, List.setIfInBounds_toArray, List.set_cons_zero, List.set_cons_succ]
  have z7 : V1.cell? ⟨w.heap.size + 1, 7, none⟩ = some (.int .u32 0) := blk_cell HS1.out.bB rfl
  have y7 : V1.frozen? ⟨w.heap.size + 1, 7, none⟩ = false := blk_free HS1.out.bB
  have HS2 : Hid (SM2 w #[.int .i64 8, .int .i64 c, .int .i64 l, .int .i64 t, .int .i64 o, .int .i64 e, .int .i64 w_, .int .u32 v, .int .u32 d0, .int .u32 d1, .int .u32 d2, .int .u32 d3, .bool h] #[.int .i64 8, .int .i64 c, .int .i64 l, .int .i64 0, .int .i64 0, .int .i64 0, .int .i64 w_, .int .u32 v, .int .u32 0, .int .u32 0, .int .u32 0, .int .u32 0, .bool false] (V1.setCell ⟨w.heap.size + 1, 7, none⟩ (.int .u32 v))) := Hid.in (HS1.out.set 7 (.int .u32 v))
  refine wpBut_one (i := 7) rfl (by kernel_rfl) (fun K HK => ?_)
  go_simp
  generalize hX : (V1.setCell ⟨w.heap.size + 1, 7, none⟩ (.int .u32 v)) = W1 at *
  clear hX HS HS1 z7 y7
  have HS0 := HS2
  clear HS2 HFA
  refine HK.out _ _ (fun h => absurd rfl h) ?_
  clear HK K
  try simp only [Act.put, List.setIfInBounds_toArray, List.set_cons_zero, List.set_cons_succ]
  refine wpBut_done (by kernel_rfl) ?_ _
  have x0 : W1.cell? ⟨w.heap.size, 0, none⟩ = some (.int .i64 8) := blk_cell HS0.out.bA rfl
  have x1 : W1.cell? ⟨w.heap.size, 1, none⟩ = some (.int .i64 c) := blk_cell HS0.out.bA rfl
  have x2 : W1.cell? ⟨w.heap.size, 2, none⟩ = some (.int .i64 l) := blk_cell HS0.out.bA rfl
  have x3 : W1.cell? ⟨w.heap.size, 3, none⟩ = some (.int .i64 t) := blk_cell HS0.out.bA rfl
  have x4 : W1.cell? ⟨w.heap.size, 4, none⟩ = some (.int .i64 o) := blk_cell HS0.out.bA rfl
  have x5 : W1.cell? ⟨w.heap.size, 5, none⟩ = some (.int .i64 e) := blk_cell HS0.out.bA rfl
  have x6 : W1.cell? ⟨w.heap.size, 6, none⟩ = some (.int .i64 w_) := blk_cell HS0.out.bA rfl
  have x7 : W1.cell? ⟨w.heap.size, 7, none⟩ = some (.int .u32 v) := blk_cell HS0.out.bA rfl
  have x8 : W1.cell? ⟨w.heap.size, 8, none⟩ = some (.int .u32 d0) := blk_cell HS0.out.bA rfl
  have x9 : W1.cell? ⟨w.heap.size, 9, none⟩ = some (.int .u32 d1) := blk_cell HS0.out.bA rfl
  have x10 : W1.cell? ⟨w.heap.size, 10, none⟩ = some (.int .u32 d2) := blk_cell HS0.out.bA rfl
  have x11 : W1.cell? ⟨w.heap.size, 11, none⟩ = some (.int .u32 d3) := blk_cell HS0.out.bA rfl
  have x12 : W1.cell? ⟨w.heap.size, 12, none⟩ = some (.bool h) := blk_cell HS0.out.bA rfl
  have y0 : W1.cell? ⟨w.heap.size + 1, 0, none⟩ = some (.int .i64 8) := blk_cell HS0.out.bB rfl
  have y1 : W1.cell? ⟨w.heap.size + 1, 1, none⟩ = some (.int .i64 c) := blk_cell HS0.out.bB rfl
  have y2 : W1.cell? ⟨w.heap.size + 1, 2, none⟩ = some (.int .i64 l) := blk_cell HS0.out.bB rfl
  have y3 : W1.cell? ⟨w.heap.size + 1, 3, none⟩ = some (.int .i64 0) := blk_cell HS0.out.bB rfl
  have y4 : W1.cell? ⟨w.heap.size + 1, 4, none⟩ = some (.int .i64 0) := blk_cell HS0.out.bB rfl
  have y5 : W1.cell? ⟨w.heap.size + 1, 5, none⟩ = some (.int .i64 0) := blk_cell HS0.out.bB rfl
  have y6 : W1.cell? ⟨w.heap.size + 1, 6, none⟩ = some (.int .i64 w_) := blk_cell HS0.out.bB rfl
  have y7 : W1.cell? ⟨w.heap.size + 1, 7, none⟩ = some (.int .u32 v) := blk_cell HS0.out.bB rfl
  have y8 : W1.cell? ⟨w.heap.size + 1, 8, none⟩ = some (.int .u32 0) := blk_cell HS0.out.bB rfl
  have y9 : W1.cell? ⟨w.heap.size + 1, 9, none⟩ = some (.int .u32 0) := blk_cell HS0.out.bB rfl
  have y10 : W1.cell? ⟨w.heap.size + 1, 10, none⟩ = some (.int .u32 0) := blk_cell HS0.out.bB rfl
  have y11 : W1.cell? ⟨w.heap.size + 1, 11, none⟩ = some (.int .u32 0) := blk_cell HS0.out.bB rfl
  have y12 : W1.cell? ⟨w.heap.size + 1, 12, none⟩ = some (.bool false) := blk_cell HS0.out.bB rfl
  have hp := qsPool_any 8
  have he := fun w => eq_msgIn' (8, c, l, t, o, e, w_, v, d0, d1, d2, d3, h) (8, c, l, 0, 0, 0, w_, v, 0, 0, 0, 0, false) w
  simp only [mv] at he
  have HMK : Hid (maskM (8, c, l, t, o, e, w_, v, d0, d1, d2, d3, h) = (8, c, l, 0, 0, 0, w_, v, 0, 0, 0, 0, false)) := Hid.in (rfl)
  rw [show poolS 8 = 1 from by decide] at hp
  have hpk : (1 : Int) ≤ 8 ∧ (8 : Int) ≤ 15 := by decide
  rcases hb : eqB (8, c, l, t, o, e, w_, v, d0, d1, d2, d3, h) (8, c, l, 0, 0, 0, w_, v, 0, 0, 0, 0, false) with _ | _
  · rw [hb] at he
    have HRF := Hid.in (rtB_no (8, c, l, t, o, e, w_, v, d0, d1, d2, d3, h) (fun hr => by have h1 := mask_eq _ hr; rw [HMK.out] at h1; have h2 := (eqB_iff (8, c, l, t, o, e, w_, v, d0, d1, d2, d3, h) (8, c, l, 0, 0, 0, w_, v, 0, 0, 0, 0, false)).2 h1.symm; rw [hb] at h2; cases h2))
    go_wp2_with fail
    refine (hp _).mono ?_
    rintro r w0 ⟨rfl, rfl⟩
    go_wp2
    go_ret
    exact ⟨by rw [HRF.out]; first | rfl | simp_all, HS0.out.be⟩
  rw [hb] at he
  have HB := Hid.in hb
  clear hb
  by_cases hq : (0 ≤ c ∧ c ≤ 63) ∧ (0 ≤ l ∧ l ≤ 31) ∧ (0 ≤ w_ ∧ w_ ≤ 3) ∧ (0 ≤ o ∧ o ≤ 3) ∧ (0 ≤ e ∧ e ≤ 255) ∧ (0 ≤ t ∧ t ≤ 4)
  rotate_left
  · skip
    have HRF := Hid.in (rtB_no (8, c, l, t, o, e, w_, v, d0, d1, d2, d3, h) (fun hr => hq (by simp only [rtP] at hr; omega)))
    go_wp2_with fail
    refine (hp _).mono ?_
    rintro r w0 ⟨rfl, rfl⟩
    go_wp2
    all_goals (first | (exfalso; omega) | (go_ret; exact ⟨by rw [HRF.out]; first | rfl | simp_all, HS0.out.be⟩))
  obtain ⟨⟨q0, q1⟩, ⟨q2, q3⟩, ⟨q4, q5⟩, ⟨q6, q7⟩, ⟨q8, q9⟩, q10, q11⟩ := hq
  have HR : Hid (((8 : Int) = 13 → ¬ t = 0 ∧ ¬ t = 3) → rtP (8, c, l, t, o, e, w_, v, d0, d1, d2, d3, h)) := Hid.in (fun e2 => rt_of_mask 8 c l t o e w_ v d0 d1 d2 d3 h (by rw [HMK.out]; exact ((eqB_iff _ _).1 HB.out).symm) hpk (by omega) (by omega) (by omega) (by omega) (by omega) (by omega) (fun h => by omega) e2)
  have HRF := Hid.in ((rtB_iff _).2 (HR.out (fun e => by omega)))
  go_wp2_with fail
  refine (hp _).mono ?_
  rintro r w0 ⟨rfl, rfl⟩
  go_wp2
  go_ret
  exact ⟨by rw [HRF.out]; first | rfl | simp_all, HS0.out.be⟩

end Go.Proofs.YtakomlmbdienpaaDoor

namespace Go.Proofs.YtakomlmbdienpaaDoor
open Go.RowKit Go.Extern.Stop Go.Stop Go.Extern

set_option linter.unusedVariables false in
set_option maxHeartbeats 12800000 in
set_option maxRecDepth 20000 in
theorem qsRight_U14 (w : World) (c l t o e w_ v d0 d1 d2 d3 : Int) (h : Bool) :
    Calls Tryd.prog 37 #[.agg #[.int .i64 14, .int .i64 c, .int .i64 l, .int .i64 t, .int .i64 o, .int .i64 e, .int .i64 w_, .int .u32 v, .int .u32 d0, .int .u32 d1, .int .u32 d2, .int .u32 d3, .bool h]] w fun r w' => r = .returned (.bool (rtB (14, c, l, t, o, e, w_, v, d0, d1, d2, d3, h))) ∧ Below w.heap.size w w' := by
  have HS0 : Hid (SM2 w #[.int .i64 14, .int .i64 c, .int .i64 l, .int .i64 t, .int .i64 o, .int .i64 e, .int .i64 w_, .int .u32 v, .int .u32 d0, .int .u32 d1, .int .u32 d2, .int .u32 d3, .bool h] #[.int .i64 14, .int .i64 c, .int .i64 l, .int .i64 0, .int .i64 0, .int .i64 0, .int .i64 0, .int .u32 0, .int .u32 0, .int .u32 0, .int .u32 0, .int .u32 0, .bool false] ((w.alloc (.cells #[.int .i64 14, .int .i64 c, .int .i64 l, .int .i64 t, .int .i64 o, .int .i64 e, .int .i64 w_, .int .u32 v, .int .u32 d0, .int .u32 d1, .int .u32 d2, .int .u32 d3, .bool h] 32)).alloc (.cells #[.int .i64 14, .int .i64 c, .int .i64 l, .int .i64 0, .int .i64 0, .int .i64 0, .int .i64 0, .int .u32 0, .int .u32 0, .int .u32 0, .int .u32 0, .int .u32 0, .bool false] 32))) := Hid.in (SM2.start _ _ _)
  have hA := heap_alloc_new w (.cells #[.int .i64 14, .int .i64 c, .int .i64 l, .int .i64 t, .int .i64 o, .int .i64 e, .int .i64 w_, .int .u32 v, .int .u32 d0, .int .u32 d1, .int .u32 d2, .int .u32 d3, .bool h] 32)
  have x0 : (w.alloc (.cells #[.int .i64 14, .int .i64 c, .int .i64 l, .int .i64 t, .int .i64 o, .int .i64 e, .int .i64 w_, .int .u32 v, .int .u32 d0, .int .u32 d1, .int .u32 d2, .int .u32 d3, .bool h] 32)).cell? ⟨w.heap.size, 0, none⟩ = some (.int .i64 14) := blk_cell hA rfl
  have x1 : (w.alloc (.cells #[.int .i64 14, .int .i64 c, .int .i64 l, .int .i64 t, .int .i64 o, .int .i64 e, .int .i64 w_, .int .u32 v, .int .u32 d0, .int .u32 d1, .int .u32 d2, .int .u32 d3, .bool h] 32)).cell? ⟨w.heap.size, 1, none⟩ = some (.int .i64 c) := blk_cell hA rfl
  have x2 : (w.alloc (.cells #[.int .i64 14, .int .i64 c, .int .i64 l, .int .i64 t, .int .i64 o, .int .i64 e, .int .i64 w_, .int .u32 v, .int .u32 d0, .int .u32 d1, .int .u32 d2, .int .u32 d3, .bool h] 32)).cell? ⟨w.heap.size, 2, none⟩ = some (.int .i64 l) := blk_cell hA rfl
  have x3 : (w.alloc (.cells #[.int .i64 14, .int .i64 c, .int .i64 l, .int .i64 t, .int .i64 o, .int .i64 e, .int .i64 w_, .int .u32 v, .int .u32 d0, .int .u32 d1, .int .u32 d2, .int .u32 d3, .bool h] 32)).cell? ⟨w.heap.size, 3, none⟩ = some (.int .i64 t) := blk_cell hA rfl
  have x4 : (w.alloc (.cells #[.int .i64 14, .int .i64 c, .int .i64 l, .int .i64 t, .int .i64 o, .int .i64 e, .int .i64 w_, .int .u32 v, .int .u32 d0, .int .u32 d1, .int .u32 d2, .int .u32 d3, .bool h] 32)).cell? ⟨w.heap.size, 4, none⟩ = some (.int .i64 o) := blk_cell hA rfl
  have x5 : (w.alloc (.cells #[.int .i64 14, .int .i64 c, .int .i64 l, .int .i64 t, .int .i64 o, .int .i64 e, .int .i64 w_, .int .u32 v, .int .u32 d0, .int .u32 d1, .int .u32 d2, .int .u32 d3, .bool h] 32)).cell? ⟨w.heap.size, 5, none⟩ = some (.int .i64 e) := blk_cell hA rfl
  have x6 : (w.alloc (.cells #[.int .i64 14, .int .i64 c, .int .i64 l, .int .i64 t, .int .i64 o, .int .i64 e, .int .i64 w_, .int .u32 v, .int .u32 d0, .int .u32 d1, .int .u32 d2, .int .u32 d3, .bool h] 32)).cell? ⟨w.heap.size, 6, none⟩ = some (.int .i64 w_) := blk_cell hA rfl
  have x7 : (w.alloc (.cells #[.int .i64 14, .int .i64 c, .int .i64 l, .int .i64 t, .int .i64 o, .int .i64 e, .int .i64 w_, .int .u32 v, .int .u32 d0, .int .u32 d1, .int .u32 d2, .int .u32 d3, .bool h] 32)).cell? ⟨w.heap.size, 7, none⟩ = some (.int .u32 v) := blk_cell hA rfl
  have x8 : (w.alloc (.cells #[.int .i64 14, .int .i64 c, .int .i64 l, .int .i64 t, .int .i64 o, .int .i64 e, .int .i64 w_, .int .u32 v, .int .u32 d0, .int .u32 d1, .int .u32 d2, .int .u32 d3, .bool h] 32)).cell? ⟨w.heap.size, 8, none⟩ = some (.int .u32 d0) := blk_cell hA rfl
  have x9 : (w.alloc (.cells #[.int .i64 14, .int .i64 c, .int .i64 l, .int .i64 t, .int .i64 o, .int .i64 e, .int .i64 w_, .int .u32 v, .int .u32 d0, .int .u32 d1, .int .u32 d2, .int .u32 d3, .bool h] 32)).cell? ⟨w.heap.size, 9, none⟩ = some (.int .u32 d1) := blk_cell hA rfl
  have x10 : (w.alloc (.cells #[.int .i64 14, .int .i64 c, .int .i64 l, .int .i64 t, .int .i64 o, .int .i64 e, .int .i64 w_, .int .u32 v, .int .u32 d0, .int .u32 d1, .int .u32 d2, .int .u32 d3, .bool h] 32)).cell? ⟨w.heap.size, 10, none⟩ = some (.int .u32 d2) := blk_cell hA rfl
  have x11 : (w.alloc (.cells #[.int .i64 14, .int .i64 c, .int .i64 l, .int .i64 t, .int .i64 o, .int .i64 e, .int .i64 w_, .int .u32 v, .int .u32 d0, .int .u32 d1, .int .u32 d2, .int .u32 d3, .bool h] 32)).cell? ⟨w.heap.size, 11, none⟩ = some (.int .u32 d3) := blk_cell hA rfl
  have x12 : (w.alloc (.cells #[.int .i64 14, .int .i64 c, .int .i64 l, .int .i64 t, .int .i64 o, .int .i64 e, .int .i64 w_, .int .u32 v, .int .u32 d0, .int .u32 d1, .int .u32 d2, .int .u32 d3, .bool h] 32)).cell? ⟨w.heap.size, 12, none⟩ = some (.bool h) := blk_cell hA rfl
  clear hA
  go_enter Tryd.func37, Tryd.ntmps37
  go_upto_region 2 with fail
  generalize hX : ((w.alloc (.cells #[.int .i64 14, .int .i64 c, .int .i64 l, .int .i64 t, .int .i64 o, .int .i64 e, .int .i64 w_, .int .u32 v, .int .u32 d0, .int .u32 d1, .int .u32 d2, .int .u32 d3, .bool h] 32)).alloc (.cells #[.int .i64 14, .int .i64 c, .int .i64 l, .int .i64 0, .int .i64 0, .int .i64 0, .int .i64 0, .int .u32 0, .int .u32 0, .int .u32 0, .int .u32 0, .int .u32 0, .bool false] 32)) = W0 at *
  clear hX x0 x1 x2 x3 x4 x5 x6 x7 x8 x9 x10 x11 x12
  have p0 : W0.cell? ⟨w.heap.size, 0, none⟩ = some (.int .i64 14) := blk_cell HS0.out.bA rfl
  go_upto_region 16 with fail
  clear p0
  have HS1 : Hid (SM2 w #[.int .i64 14, .int .i64 c, .int .i64 l, .int .i64 t, .int .i64 o, .int .i64 e, .int .i64 w_, .int .u32 v, .int .u32 d0, .int .u32 d1, .int .u32 d2, .int .u32 d3, .bool h] #[.int .i64 14, .int .i64 c, .int .i64 l, .int .i64 0, .int .i64 0, .int .i64 0, .int .i64 0, .int .u32 0, .int .u32 0, .int .u32 0, .int .u32 0, .int .u32 0, .bool false] W0.drew) := Hid.in (HS0.out.step (Below.refl _ _).drew)
  have HS : Hid (SMA w #[.int .i64 14, .int .i64 c, .int .i64 l, .int .i64 t, .int .i64 o, .int .i64 e, .int .i64 w_, .int .u32 v, .int .u32 d0, .int .u32 d1, .int .u32 d2, .int .u32 d3, .bool h] W0.drew) := Hid.in ⟨HS1.out.bA, HS1.out.be⟩
  have HFA : Hid (∀ W, SMA w #[.int .i64 14, .int .i64 c, .int .i64 l, .int .i64 t, .int .i64 o, .int .i64 e, .int .i64 w_, .int .u32 v, .int .u32 d0, .int .u32 d1, .int .u32 d2, .int .u32 d3, .bool h] W → W.cell? ⟨w.heap.size, 0, none⟩ = some (.int .i64 14) ∧ W.cell? ⟨w.heap.size, 1, none⟩ = some (.int .i64 c) ∧ W.cell? ⟨w.heap.size, 2, none⟩ = some (.int .i64 l) ∧ W.cell? ⟨w.heap.size, 3, none⟩ = some (.int .i64 t) ∧ W.cell? ⟨w.heap.size, 4, none⟩ = some (.int .i64 o) ∧ W.cell? ⟨w.heap.size, 5, none⟩ = some (.int .i64 e) ∧ W.cell? ⟨w.heap.size, 6, none⟩ = some (.int .i64 w_) ∧ W.cell? ⟨w.heap.size, 7, none⟩ = some (.int .u32 v) ∧ W.cell? ⟨w.heap.size, 8, none⟩ = some (.int .u32 d0) ∧ W.cell? ⟨w.heap.size, 9, none⟩ = some (.int .u32 d1) ∧ W.cell? ⟨w.heap.size, 10, none⟩ = some (.int .u32 d2) ∧ W.cell? ⟨w.heap.size, 11, none⟩ = some (.int .u32 d3) ∧ W.cell? ⟨w.heap.size, 12, none⟩ = some (.bool h)) := Hid.in (fun W h => ⟨blk_cell h.bA rfl, blk_cell h.bA rfl, blk_cell h.bA rfl, blk_cell h.bA rfl, blk_cell h.bA rfl, blk_cell h.bA rfl, blk_cell h.bA rfl, blk_cell h.bA rfl, blk_cell h.bA rfl, blk_cell h.bA rfl, blk_cell h.bA rfl, blk_cell h.bA rfl, blk_cell h.bA rfl⟩)
  clear HS0
  refine wp_region_but (SMA w #[.int .i64 14, .int .i64 c, .int .i64 l, .int .i64 t, .int .i64 o, .int .i64 e, .int .i64 w_, .int .u32 v, .int .u32 d0, .int .u32 d1, .int .u32 d2, .int .u32 d3, .bool h]) 7 (by kernel_rfl) ?_
  generalize hX : W0.drew = V0 at *
  clear hX
  refine wpBut_take (i := 0) (v := ?_) rfl (by kernel_rfl) (by kernel_rfl) (by exact fun _ _ _ h => h) HS.out (Or.inl ⟨by rfl, ?_⟩) ?_
  case refine_2 => (intro W _; go_simp; try with_reducible rfl)
  simp only [Act.put, List.setIfInBounds_toArray, List.set_cons_zero, List.set_cons_succ]
  refine wpBut_take (i := 1) (v := ?_) rfl (by kernel_rfl) (by kernel_rfl) (by exact fun _ _ _ h => h) HS.out (Or.inl ⟨by rfl, ?_⟩) ?_
  case refine_2 => (intro W hSw; obtain ⟨s0, s1, s2, s3, s4, s5, s6, s7, s8, s9, s10, s11, s12⟩ := HFA.out W hSw; go_simp; try with_reducible rfl)
  simp only [Act.put, List.setIfInBounds_toArray, List.set_cons_zero, List.set_cons_succ]
  refine wpBut_take (i := 2) (v := ?_) rfl (by kernel_rfl) (by kernel_rfl) (by exact fun _ _ _ h => h) HS.out (Or.inl ⟨by rfl, ?_⟩) ?_
  case refine_2 => (intro W _; go_simp; try with_reducible rfl)
  simp only [Act.put, List.setIfInBounds_toArray, List.set_cons_zero, List.set_cons_succ]
  refine wpBut_take (i := 3) (v := ?_) rfl (by kernel_rfl) (by kernel_rfl) (by exact fun _ _ _ h => h) HS.out (Or.inl ⟨by rfl, ?_⟩) ?_
  case refine_2 => (intro W hSw; obtain ⟨s0, s1, s2, s3, s4, s5, s6, s7, s8, s9, s10, s11, s12⟩ := HFA.out W hSw; go_simp; try with_reducible rfl)
  simp only [Act.put, List.setIfInBounds_toArray, List.set_cons_zero, List.set_cons_succ]
  refine wpBut_take (i := 4) (v := ?_) rfl (by kernel_rfl) (by kernel_rfl) (by exact fun _ _ _ h => h) HS.out (Or.inl ⟨by rfl, ?_⟩) ?_
  case refine_2 => (intro W _; go_simp; try with_reducible rfl)
  simp only [Act.put, List.setIfInBounds_toArray, List.set_cons_zero, List.set_cons_succ]
  have z6 : V0.cell? ⟨w.heap.size + 1, 6, none⟩ = some (.int .i64 0) := blk_cell HS1.out.bB rfl
  have y6 : V0.frozen? ⟨w.heap.size + 1, 6, none⟩ = false := blk_free HS1.out.bB
  have HS2 : Hid (SM2 w #[.int .i64 14, .int .i64 c, .int .i64 l, .int .i64 t, .int .i64 o, .int .i64 e, .int .i64 w_, .int .u32 v, .int .u32 d0, .int .u32 d1, .int .u32 d2, .int .u32 d3, .bool h] #[.int .i64 14, .int .i64 c, .int .i64 l, .int .i64 0, .int .i64 0, .int .i64 0, .int .i64 w_, .int .u32 0, .int .u32 0, .int .u32 0, .int .u32 0, .int .u32 0, .bool false] (V0.setCell ⟨w.heap.size + 1, 6, none⟩ (.int .i64 w_))) := Hid.in (HS1.out.set 6 (.int .i64 w_))
  refine wpBut_one (i := 5) rfl (by kernel_rfl) (fun K HK => ?_)
  go_simp
  generalize hX : (V0.setCell ⟨w.heap.size + 1, 6, none⟩ (.int .i64 w_)) = V1 at *
  clear hX HS HS1 z6 y6
  have HS1 := HS2
  clear HS2
  have HS : Hid (SMA w #[.int .i64 14, .int .i64 c, .int .i64 l, .int .i64 t, .int .i64 o, .int .i64 e, .int .i64 w_, .int .u32 v, .int .u32 d0, .int .u32 d1, .int .u32 d2, .int .u32 d3, .bool h] V1) := Hid.in ⟨HS1.out.bA, HS1.out.be⟩
  refine HK.out _ _ (fun _ => HS.out) ?_
  clear HK K
  try simp only [Act.put, List.setIfInBounds_toArray, List.set_cons_zero, List.set_cons_succ]
  refine wpBut_take (i := 6) (v := ?_) rfl (by kernel_rfl) (by kernel_rfl) (by exact fun _ _ _ h => h) HS.out (Or.inl ⟨by rfl, ?_⟩) ?_
  case refine_2 => (intro W _; go_simp; try with_reducible rfl)
  simp only [Act.put, List.setIfInBounds_toArray, List.set_cons_zero, List.set_cons_succ]
  have z7 : V1.cell? ⟨w.heap.size + 1, 7, none⟩ = some (.int .u32 0) := blk_cell HS1.out.bB rfl
  have y7 : V1.frozen? ⟨w.heap.size + 1, 7, none⟩ = false := blk_free HS1.out.bB
  have HS2 : Hid (SM2 w #[.int .i64 14, .int .i64 c, .int .i64 l, .int .i64 t, .int .i64 o, .int .i64 e, .int .i64 w_, .int .u32 v, .int .u32 d0, .int .u32 d1, .int .u32 d2, .int .u32 d3, .bool h] #[.int .i64 14, .int .i64 c, .int .i64 l, .int .i64 0, .int .i64 0, .int .i64 0, .int .i64 w_, .int .u32 v, .int .u32 0, .int .u32 0, .int .u32 0, .int .u32 0, .bool false] (V1.setCell ⟨w.heap.size + 1, 7, none⟩ (.int .u32 v))) := Hid.in (HS1.out.set 7 (.int .u32 v))
  refine wpBut_one (i := 7) rfl (by kernel_rfl) (fun K HK => ?_)
  go_simp
  generalize hX : (V1.setCell ⟨w.heap.size + 1, 7, none⟩ (.int .u32 v)) = W1 at *
  clear hX HS HS1 z7 y7
  have HS0 := HS2
  clear HS2 HFA
  refine HK.out _ _ (fun h => absurd rfl h) ?_
  clear HK K
  try simp only [Act.put, List.setIfInBounds_toArray, List.set_cons_zero, List.set_cons_succ]
  refine wpBut_done (by kernel_rfl) ?_ _
  have x0 : W1.cell? ⟨w.heap.size, 0, none⟩ = some (.int .i64 14) := blk_cell HS0.out.bA rfl
  have x1 : W1.cell? ⟨w.heap.size, 1, none⟩ = some (.int .i64 c) := blk_cell HS0.out.bA rfl
  have x2 : W1.cell? ⟨w.heap.size, 2, none⟩ = some (.int .i64 l) := blk_cell HS0.out.bA rfl
  have x3 : W1.cell? ⟨w.heap.size, 3, none⟩ = some (.int .i64 t) := blk_cell HS0.out.bA rfl
  have x4 : W1.cell? ⟨w.heap.size, 4, none⟩ = some (.int .i64 o) := blk_cell HS0.out.bA rfl
  have x5 : W1.cell? ⟨w.heap.size, 5, none⟩ = some (.int .i64 e) := blk_cell HS0.out.bA rfl
  have x6 : W1.cell? ⟨w.heap.size, 6, none⟩ = some (.int .i64 w_) := blk_cell HS0.out.bA rfl
  have x7 : W1.cell? ⟨w.heap.size, 7, none⟩ = some (.int .u32 v) := blk_cell HS0.out.bA rfl
  have x8 : W1.cell? ⟨w.heap.size, 8, none⟩ = some (.int .u32 d0) := blk_cell HS0.out.bA rfl
  have x9 : W1.cell? ⟨w.heap.size, 9, none⟩ = some (.int .u32 d1) := blk_cell HS0.out.bA rfl
  have x10 : W1.cell? ⟨w.heap.size, 10, none⟩ = some (.int .u32 d2) := blk_cell HS0.out.bA rfl
  have x11 : W1.cell? ⟨w.heap.size, 11, none⟩ = some (.int .u32 d3) := blk_cell HS0.out.bA rfl
  have x12 : W1.cell? ⟨w.heap.size, 12, none⟩ = some (.bool h) := blk_cell HS0.out.bA rfl
  have y0 : W1.cell? ⟨w.heap.size + 1, 0, none⟩ = some (.int .i64 14) := blk_cell HS0.out.bB rfl
  have y1 : W1.cell? ⟨w.heap.size + 1, 1, none⟩ = some (.int .i64 c) := blk_cell HS0.out.bB rfl
  have y2 : W1.cell? ⟨w.heap.size + 1, 2, none⟩ = some (.int .i64 l) := blk_cell HS0.out.bB rfl
  have y3 : W1.cell? ⟨w.heap.size + 1, 3, none⟩ = some (.int .i64 0) := blk_cell HS0.out.bB rfl
  have y4 : W1.cell? ⟨w.heap.size + 1, 4, none⟩ = some (.int .i64 0) := blk_cell HS0.out.bB rfl
  have y5 : W1.cell? ⟨w.heap.size + 1, 5, none⟩ = some (.int .i64 0) := blk_cell HS0.out.bB rfl
  have y6 : W1.cell? ⟨w.heap.size + 1, 6, none⟩ = some (.int .i64 w_) := blk_cell HS0.out.bB rfl
  have y7 : W1.cell? ⟨w.heap.size + 1, 7, none⟩ = some (.int .u32 v) := blk_cell HS0.out.bB rfl
  have y8 : W1.cell? ⟨w.heap.size + 1, 8, none⟩ = some (.int .u32 0) := blk_cell HS0.out.bB rfl
  have y9 : W1.cell? ⟨w.heap.size + 1, 9, none⟩ = some (.int .u32 0) := blk_cell HS0.out.bB rfl
  have y10 : W1.cell? ⟨w.heap.size + 1, 10, none⟩ = some (.int .u32 0) := blk_cell HS0.out.bB rfl
  have y11 : W1.cell? ⟨w.heap.size + 1, 11, none⟩ = some (.int .u32 0) := blk_cell HS0.out.bB rfl
  have y12 : W1.cell? ⟨w.heap.size + 1, 12, none⟩ = some (.bool false) := blk_cell HS0.out.bB rfl
  have hp := qsPool_any 14
  have he := fun w => eq_msgIn' (14, c, l, t, o, e, w_, v, d0, d1, d2, d3, h) (14, c, l, 0, 0, 0, w_, v, 0, 0, 0, 0, false) w
  simp only [mv] at he
  have HMK : Hid (maskM (14, c, l, t, o, e, w_, v, d0, d1, d2, d3, h) = (14, c, l, 0, 0, 0, w_, v, 0, 0, 0, 0, false)) := Hid.in (rfl)
  rw [show poolS 14 = 3 from by decide] at hp
  have hpk : (1 : Int) ≤ 14 ∧ (14 : Int) ≤ 15 := by decide
  rcases hb : eqB (14, c, l, t, o, e, w_, v, d0, d1, d2, d3, h) (14, c, l, 0, 0, 0, w_, v, 0, 0, 0, 0, false) with _ | _
  · rw [hb] at he
    have HRF := Hid.in (rtB_no (14, c, l, t, o, e, w_, v, d0, d1, d2, d3, h) (fun hr => by have h1 := mask_eq _ hr; rw [HMK.out] at h1; have h2 := (eqB_iff (14, c, l, t, o, e, w_, v, d0, d1, d2, d3, h) (14, c, l, 0, 0, 0, w_, v, 0, 0, 0, 0, false)).2 h1.symm; rw [hb] at h2; cases h2))
    go_wp2_with fail
    refine (hp _).mono ?_
    rintro r w0 ⟨rfl, rfl⟩
    go_wp2
    go_ret
    exact ⟨by rw [HRF.out]; first | rfl | simp_all, HS0.out.be⟩
  rw [hb] at he
  have HB := Hid.in hb
  clear hb
  by_cases hq : (0 ≤ c ∧ c ≤ 63) ∧ (0 ≤ l ∧ l ≤ 31) ∧ (0 ≤ w_ ∧ w_ ≤ 3) ∧ (0 ≤ o ∧ o ≤ 3) ∧ (0 ≤ e ∧ e ≤ 255) ∧ (0 ≤ t ∧ t ≤ 4)
  rotate_left
  · skip
    have HRF := Hid.in (rtB_no (14, c, l, t, o, e, w_, v, d0, d1, d2, d3, h) (fun hr => hq (by simp only [rtP] at hr; omega)))
    go_wp2_with fail
    refine (hp _).mono ?_
    rintro r w0 ⟨rfl, rfl⟩
    go_wp2
    all_goals (first | (exfalso; omega) | (go_ret; exact ⟨by rw [HRF.out]; first | rfl | simp_all, HS0.out.be⟩))
  obtain ⟨⟨q0, q1⟩, ⟨q2, q3⟩, ⟨q4, q5⟩, ⟨q6, q7⟩, ⟨q8, q9⟩, q10, q11⟩ := hq
  have HR : Hid (((14 : Int) = 13 → ¬ t = 0 ∧ ¬ t = 3) → rtP (14, c, l, t, o, e, w_, v, d0, d1, d2, d3, h)) := Hid.in (fun e2 => rt_of_mask 14 c l t o e w_ v d0 d1 d2 d3 h (by rw [HMK.out]; exact ((eqB_iff _ _).1 HB.out).symm) hpk (by omega) (by omega) (by omega) (by omega) (by omega) (by omega) (fun h => by omega) e2)
  have HRF := Hid.in ((rtB_iff _).2 (HR.out (fun e => by omega)))
  go_wp2_with fail
  refine (hp _).mono ?_
  rintro r w0 ⟨rfl, rfl⟩
  go_wp2
  go_ret
  exact ⟨by rw [HRF.out]; first | rfl | simp_all, HS0.out.be⟩

end Go.Proofs.YtakomlmbdienpaaDoor

/- DERIVED of the program: the document's own Right by its contract, a text a kind. Own work. -/
import Derived.Test.YtakomlmbdienpaaDoorSgQR
namespace Go.Proofs.YtakomlmbdienpaaDoor
open Go.RowKit Go.Extern.Stop Go.Stop Go.Extern

set_option linter.unusedVariables false in
set_option maxHeartbeats 12800000 in
set_option maxRecDepth 20000 in
theorem qsRight_D0 (w : World) (c l t o e w_ v : Int) :
    Calls Tryd.prog 37 #[.agg #[.int .i64 13, .int .i64 c, .int .i64 l, .int .i64 t, .int .i64 o, .int .i64 e, .int .i64 w_, .int .u32 v, .int .u32 0, .int .u32 0, .int .u32 0, .int .u32 0, .bool false]] w fun r w' => r = .returned (.bool (rtB (13, c, l, t, o, e, w_, v, 0, 0, 0, 0, false))) ∧ Below w.heap.size w w' := by
  have HS0 : Hid (SM2 w #[.int .i64 13, .int .i64 c, .int .i64 l, .int .i64 t, .int .i64 o, .int .i64 e, .int .i64 w_, .int .u32 v, .int .u32 0, .int .u32 0, .int .u32 0, .int .u32 0, .bool false] #[.int .i64 13, .int .i64 c, .int .i64 l, .int .i64 0, .int .i64 0, .int .i64 0, .int .i64 0, .int .u32 0, .int .u32 0, .int .u32 0, .int .u32 0, .int .u32 0, .bool false] ((w.alloc (.cells #[.int .i64 13, .int .i64 c, .int .i64 l, .int .i64 t, .int .i64 o, .int .i64 e, .int .i64 w_, .int .u32 v, .int .u32 0, .int .u32 0, .int .u32 0, .int .u32 0, .bool false] 32)).alloc (.cells #[.int .i64 13, .int .i64 c, .int .i64 l, .int .i64 0, .int .i64 0, .int .i64 0, .int .i64 0, .int .u32 0, .int .u32 0, .int .u32 0, .int .u32 0, .int .u32 0, .bool false] 32))) := Hid.in (SM2.start _ _ _)
  have hA := heap_alloc_new w (.cells #[.int .i64 13, .int .i64 c, .int .i64 l, .int .i64 t, .int .i64 o, .int .i64 e, .int .i64 w_, .int .u32 v, .int .u32 0, .int .u32 0, .int .u32 0, .int .u32 0, .bool false] 32)
  have x0 : (w.alloc (.cells #[.int .i64 13, .int .i64 c, .int .i64 l, .int .i64 t, .int .i64 o, .int .i64 e, .int .i64 w_, .int .u32 v, .int .u32 0, .int .u32 0, .int .u32 0, .int .u32 0, .bool false] 32)).cell? ⟨w.heap.size, 0, none⟩ = some (.int .i64 13) := blk_cell hA rfl
  have x1 : (w.alloc (.cells #[.int .i64 13, .int .i64 c, .int .i64 l, .int .i64 t, .int .i64 o, .int .i64 e, .int .i64 w_, .int .u32 v, .int .u32 0, .int .u32 0, .int .u32 0, .int .u32 0, .bool false] 32)).cell? ⟨w.heap.size, 1, none⟩ = some (.int .i64 c) := blk_cell hA rfl
  have x2 : (w.alloc (.cells #[.int .i64 13, .int .i64 c, .int .i64 l, .int .i64 t, .int .i64 o, .int .i64 e, .int .i64 w_, .int .u32 v, .int .u32 0, .int .u32 0, .int .u32 0, .int .u32 0, .bool false] 32)).cell? ⟨w.heap.size, 2, none⟩ = some (.int .i64 l) := blk_cell hA rfl
  have x3 : (w.alloc (.cells #[.int .i64 13, .int .i64 c, .int .i64 l, .int .i64 t, .int .i64 o, .int .i64 e, .int .i64 w_, .int .u32 v, .int .u32 0, .int .u32 0, .int .u32 0, .int .u32 0, .bool false] 32)).cell? ⟨w.heap.size, 3, none⟩ = some (.int .i64 t) := blk_cell hA rfl
  have x4 : (w.alloc (.cells #[.int .i64 13, .int .i64 c, .int .i64 l, .int .i64 t, .int .i64 o, .int .i64 e, .int .i64 w_, .int .u32 v, .int .u32 0, .int .u32 0, .int .u32 0, .int .u32 0, .bool false] 32)).cell? ⟨w.heap.size, 4, none⟩ = some (.int .i64 o) := blk_cell hA rfl
  have x5 : (w.alloc (.cells #[.int .i64 13, .int .i64 c, .int .i64 l, .int .i64 t, .int .i64 o, .int .i64 e, .int .i64 w_, .int .u32 v, .int .u32 0, .int .u32 0, .int .u32 0, .int .u32 0, .bool false] 32)).cell? ⟨w.heap.size, 5, none⟩ = some (.int .i64 e) := blk_cell hA rfl
  have x6 : (w.alloc (.cells #[.int .i64 13, .int .i64 c, .int .i64 l, .int .i64 t, .int .i64 o, .int .i64 e, .int .i64 w_, .int .u32 v, .int .u32 0, .int .u32 0, .int .u32 0, .int .u32 0, .bool false] 32)).cell? ⟨w.heap.size, 6, none⟩ = some (.int .i64 w_) := blk_cell hA rfl
  have x7 : (w.alloc (.cells #[.int .i64 13, .int .i64 c, .int .i64 l, .int .i64 t, .int .i64 o, .int .i64 e, .int .i64 w_, .int .u32 v, .int .u32 0, .int .u32 0, .int .u32 0, .int .u32 0, .bool false] 32)).cell? ⟨w.heap.size, 7, none⟩ = some (.int .u32 v) := blk_cell hA rfl
  have x8 : (w.alloc (.cells #[.int .i64 13, .int .i64 c, .int .i64 l, .int .i64 t, .int .i64 o, .int .i64 e, .int .i64 w_, .int .u32 v, .int .u32 0, .int .u32 0, .int .u32 0, .int .u32 0, .bool false] 32)).cell? ⟨w.heap.size, 8, none⟩ = some (.int .u32 0) := blk_cell hA rfl
  have x9 : (w.alloc (.cells #[.int .i64 13, .int .i64 c, .int .i64 l, .int .i64 t, .int .i64 o, .int .i64 e, .int .i64 w_, .int .u32 v, .int .u32 0, .int .u32 0, .int .u32 0, .int .u32 0, .bool false] 32)).cell? ⟨w.heap.size, 9, none⟩ = some (.int .u32 0) := blk_cell hA rfl
  have x10 : (w.alloc (.cells #[.int .i64 13, .int .i64 c, .int .i64 l, .int .i64 t, .int .i64 o, .int .i64 e, .int .i64 w_, .int .u32 v, .int .u32 0, .int .u32 0, .int .u32 0, .int .u32 0, .bool false] 32)).cell? ⟨w.heap.size, 10, none⟩ = some (.int .u32 0) := blk_cell hA rfl
  have x11 : (w.alloc (.cells #[.int .i64 13, .int .i64 c, .int .i64 l, .int .i64 t, .int .i64 o, .int .i64 e, .int .i64 w_, .int .u32 v, .int .u32 0, .int .u32 0, .int .u32 0, .int .u32 0, .bool false] 32)).cell? ⟨w.heap.size, 11, none⟩ = some (.int .u32 0) := blk_cell hA rfl
  have x12 : (w.alloc (.cells #[.int .i64 13, .int .i64 c, .int .i64 l, .int .i64 t, .int .i64 o, .int .i64 e, .int .i64 w_, .int .u32 v, .int .u32 0, .int .u32 0, .int .u32 0, .int .u32 0, .bool false] 32)).cell? ⟨w.heap.size, 12, none⟩ = some (.bool false) := blk_cell hA rfl
  clear hA
  go_enter Tryd.func37, Tryd.ntmps37
  go_upto_region 2 with fail
  generalize hX : ((w.alloc (.cells #[.int .i64 13, .int .i64 c, .int .i64 l, .int .i64 t, .int .i64 o, .int .i64 e, .int .i64 w_, .int .u32 v, .int .u32 0, .int .u32 0, .int .u32 0, .int .u32 0, .bool false] 32)).alloc (.cells #[.int .i64 13, .int .i64 c, .int .i64 l, .int .i64 0, .int .i64 0, .int .i64 0, .int .i64 0, .int .u32 0, .int .u32 0, .int .u32 0, .int .u32 0, .int .u32 0, .bool false] 32)) = W0 at *
  clear hX x0 x1 x2 x3 x4 x5 x6 x7 x8 x9 x10 x11 x12
  have p0 : W0.cell? ⟨w.heap.size, 0, none⟩ = some (.int .i64 13) := blk_cell HS0.out.bA rfl
  have hel := fun w => eq_line' 0 0 0 0 0 0 0 0 w
  rw [show (decide ((0 : Int) = 0) && (decide ((0 : Int) = 0) && (decide ((0 : Int) = 0) && decide ((0 : Int) = 0)))) = true from rfl] at hel
  go_upto_region 10 with fail
  clear p0
  have HS1 : Hid (SM2 w #[.int .i64 13, .int .i64 c, .int .i64 l, .int .i64 t, .int .i64 o, .int .i64 e, .int .i64 w_, .int .u32 v, .int .u32 0, .int .u32 0, .int .u32 0, .int .u32 0, .bool false] #[.int .i64 13, .int .i64 c, .int .i64 l, .int .i64 0, .int .i64 0, .int .i64 0, .int .i64 0, .int .u32 0, .int .u32 0, .int .u32 0, .int .u32 0, .int .u32 0, .bool false] W0.drew) := Hid.in (HS0.out.step (Below.refl _ _).drew)
  have HS : Hid (SMA w #[.int .i64 13, .int .i64 c, .int .i64 l, .int .i64 t, .int .i64 o, .int .i64 e, .int .i64 w_, .int .u32 v, .int .u32 0, .int .u32 0, .int .u32 0, .int .u32 0, .bool false] W0.drew) := Hid.in ⟨HS1.out.bA, HS1.out.be⟩
  have HFA : Hid (∀ W, SMA w #[.int .i64 13, .int .i64 c, .int .i64 l, .int .i64 t, .int .i64 o, .int .i64 e, .int .i64 w_, .int .u32 v, .int .u32 0, .int .u32 0, .int .u32 0, .int .u32 0, .bool false] W → W.cell? ⟨w.heap.size, 0, none⟩ = some (.int .i64 13) ∧ W.cell? ⟨w.heap.size, 1, none⟩ = some (.int .i64 c) ∧ W.cell? ⟨w.heap.size, 2, none⟩ = some (.int .i64 l) ∧ W.cell? ⟨w.heap.size, 3, none⟩ = some (.int .i64 t) ∧ W.cell? ⟨w.heap.size, 4, none⟩ = some (.int .i64 o) ∧ W.cell? ⟨w.heap.size, 5, none⟩ = some (.int .i64 e) ∧ W.cell? ⟨w.heap.size, 6, none⟩ = some (.int .i64 w_) ∧ W.cell? ⟨w.heap.size, 7, none⟩ = some (.int .u32 v) ∧ W.cell? ⟨w.heap.size, 8, none⟩ = some (.int .u32 0) ∧ W.cell? ⟨w.heap.size, 9, none⟩ = some (.int .u32 0) ∧ W.cell? ⟨w.heap.size, 10, none⟩ = some (.int .u32 0) ∧ W.cell? ⟨w.heap.size, 11, none⟩ = some (.int .u32 0) ∧ W.cell? ⟨w.heap.size, 12, none⟩ = some (.bool false)) := Hid.in (fun W h => ⟨blk_cell h.bA rfl, blk_cell h.bA rfl, blk_cell h.bA rfl, blk_cell h.bA rfl, blk_cell h.bA rfl, blk_cell h.bA rfl, blk_cell h.bA rfl, blk_cell h.bA rfl, blk_cell h.bA rfl, blk_cell h.bA rfl, blk_cell h.bA rfl, blk_cell h.bA rfl, blk_cell h.bA rfl⟩)
  clear HS0
  refine wp_region_but (SMA w #[.int .i64 13, .int .i64 c, .int .i64 l, .int .i64 t, .int .i64 o, .int .i64 e, .int .i64 w_, .int .u32 v, .int .u32 0, .int .u32 0, .int .u32 0, .int .u32 0, .bool false]) 7 (by kernel_rfl) ?_
  generalize hX : W0.drew = V0 at *
  clear hX
  refine wpBut_take (i := 0) (v := ?_) rfl (by kernel_rfl) (by kernel_rfl) (by exact fun _ _ _ h => h) HS.out (Or.inl ⟨by rfl, ?_⟩) ?_
  case refine_2 => (intro W _; go_simp; try with_reducible rfl)
  simp only [Act.put, List.setIfInBounds_toArray, List.set_cons_zero, List.set_cons_succ]
  refine wpBut_take (i := 1) (v := ?_) rfl (by kernel_rfl) (by kernel_rfl) (by exact fun _ _ _ h => h) HS.out (Or.inl ⟨by rfl, ?_⟩) ?_
  case refine_2 => (intro W hSw; obtain ⟨s0, s1, s2, s3, s4, s5, s6, s7, s8, s9, s10, s11, s12⟩ := HFA.out W hSw; go_simp; try with_reducible rfl)
  simp only [Act.put, List.setIfInBounds_toArray, List.set_cons_zero, List.set_cons_succ]
  refine wpBut_take (i := 2) (v := ?_) rfl (by kernel_rfl) (by kernel_rfl) (by exact fun _ _ _ h => h) HS.out (Or.inl ⟨by rfl, ?_⟩) ?_
  case refine_2 => (intro W _; go_simp; try with_reducible rfl)
  simp only [Act.put, List.setIfInBounds_toArray, List.set_cons_zero, List.set_cons_succ]
  refine wpBut_take (i := 3) (v := ?_) rfl (by kernel_rfl) (by kernel_rfl) (by exact fun _ _ _ h => h) HS.out (Or.inl ⟨by rfl, ?_⟩) ?_
  case refine_2 => (intro W hSw; obtain ⟨s0, s1, s2, s3, s4, s5, s6, s7, s8, s9, s10, s11, s12⟩ := HFA.out W hSw; go_simp; try with_reducible rfl)
  simp only [Act.put, List.setIfInBounds_toArray, List.set_cons_zero, List.set_cons_succ]
  refine wpBut_take (i := 4) (v := ?_) rfl (by kernel_rfl) (by kernel_rfl) (by exact fun _ _ _ h => h) HS.out (Or.inl ⟨by rfl, ?_⟩) ?_
  case refine_2 => (intro W _; go_simp; try with_reducible rfl)
  simp only [Act.put, List.setIfInBounds_toArray, List.set_cons_zero, List.set_cons_succ]
  have z4 : V0.cell? ⟨w.heap.size + 1, 4, none⟩ = some (.int .i64 0) := blk_cell HS1.out.bB rfl
  have y4 : V0.frozen? ⟨w.heap.size + 1, 4, none⟩ = false := blk_free HS1.out.bB
  have HS2 : Hid (SM2 w #[.int .i64 13, .int .i64 c, .int .i64 l, .int .i64 t, .int .i64 o, .int .i64 e, .int .i64 w_, .int .u32 v, .int .u32 0, .int .u32 0, .int .u32 0, .int .u32 0, .bool false] #[.int .i64 13, .int .i64 c, .int .i64 l, .int .i64 0, .int .i64 o, .int .i64 0, .int .i64 0, .int .u32 0, .int .u32 0, .int .u32 0, .int .u32 0, .int .u32 0, .bool false] (V0.setCell ⟨w.heap.size + 1, 4, none⟩ (.int .i64 o))) := Hid.in (HS1.out.set 4 (.int .i64 o))
  refine wpBut_one (i := 5) rfl (by kernel_rfl) (fun K HK => ?_)
  go_simp
  generalize hX : (V0.setCell ⟨w.heap.size + 1, 4, none⟩ (.int .i64 o)) = V1 at *
  clear hX HS HS1 z4 y4
  have HS1 := HS2
  clear HS2
  have HS : Hid (SMA w #[.int .i64 13, .int .i64 c, .int .i64 l, .int .i64 t, .int .i64 o, .int .i64 e, .int .i64 w_, .int .u32 v, .int .u32 0, .int .u32 0, .int .u32 0, .int .u32 0, .bool false] V1) := Hid.in ⟨HS1.out.bA, HS1.out.be⟩
  refine HK.out _ _ (fun _ => HS.out) ?_
  clear HK K
  try simp only [Act.put, List.setIfInBounds_toArray, List.set_cons_zero, List.set_cons_succ]
  refine wpBut_take (i := 6) (v := ?_) rfl (by kernel_rfl) (by kernel_rfl) (by exact fun _ _ _ h => h) HS.out (Or.inl ⟨by rfl, ?_⟩) ?_
  case refine_2 => (intro W _; go_simp; try with_reducible rfl)
  simp only [Act.put, List.setIfInBounds_toArray, List.set_cons_zero, List.set_cons_succ]
  have z5 : V1.cell? ⟨w.heap.size + 1, 5, none⟩ = some (.int .i64 0) := blk_cell HS1.out.bB rfl
  have y5 : V1.frozen? ⟨w.heap.size + 1, 5, none⟩ = false := blk_free HS1.out.bB
  have HS2 : Hid (SM2 w #[.int .i64 13, .int .i64 c, .int .i64 l, .int .i64 t, .int .i64 o, .int .i64 e, .int .i64 w_, .int .u32 v, .int .u32 0, .int .u32 0, .int .u32 0, .int .u32 0, .bool false] #[.int .i64 13, .int .i64 c, .int .i64 l, .int .i64 0, .int .i64 o, .int .i64 e, .int .i64 0, .int .u32 0, .int .u32 0, .int .u32 0, .int .u32 0, .int .u32 0, .bool false] (V1.setCell ⟨w.heap.size + 1, 5, none⟩ (.int .i64 e))) := Hid.in (HS1.out.set 5 (.int .i64 e))
  refine wpBut_one (i := 7) rfl (by kernel_rfl) (fun K HK => ?_)
  go_simp
  generalize hX : (V1.setCell ⟨w.heap.size + 1, 5, none⟩ (.int .i64 e)) = W1 at *
  clear hX HS HS1 z5 y5
  have HS0 := HS2
  clear HS2 HFA
  refine HK.out _ _ (fun h => absurd rfl h) ?_
  clear HK K
  try simp only [Act.put, List.setIfInBounds_toArray, List.set_cons_zero, List.set_cons_succ]
  refine wpBut_done (by kernel_rfl) ?_ _
  go_upto_region 11 with fail
  have HS1 : Hid (SM2 w #[.int .i64 13, .int .i64 c, .int .i64 l, .int .i64 t, .int .i64 o, .int .i64 e, .int .i64 w_, .int .u32 v, .int .u32 0, .int .u32 0, .int .u32 0, .int .u32 0, .bool false] #[.int .i64 13, .int .i64 c, .int .i64 l, .int .i64 0, .int .i64 o, .int .i64 e, .int .i64 0, .int .u32 0, .int .u32 0, .int .u32 0, .int .u32 0, .int .u32 0, .bool false] W1.drew) := Hid.in (HS0.out.step (Below.refl _ _).drew)
  have HS : Hid (SMA w #[.int .i64 13, .int .i64 c, .int .i64 l, .int .i64 t, .int .i64 o, .int .i64 e, .int .i64 w_, .int .u32 v, .int .u32 0, .int .u32 0, .int .u32 0, .int .u32 0, .bool false] W1.drew) := Hid.in ⟨HS1.out.bA, HS1.out.be⟩
  have HFA : Hid (∀ W, SMA w #[.int .i64 13, .int .i64 c, .int .i64 l, .int .i64 t, .int .i64 o, .int .i64 e, .int .i64 w_, .int .u32 v, .int .u32 0, .int .u32 0, .int .u32 0, .int .u32 0, .bool false] W → W.cell? ⟨w.heap.size, 0, none⟩ = some (.int .i64 13) ∧ W.cell? ⟨w.heap.size, 1, none⟩ = some (.int .i64 c) ∧ W.cell? ⟨w.heap.size, 2, none⟩ = some (.int .i64 l) ∧ W.cell? ⟨w.heap.size, 3, none⟩ = some (.int .i64 t) ∧ W.cell? ⟨w.heap.size, 4, none⟩ = some (.int .i64 o) ∧ W.cell? ⟨w.heap.size, 5, none⟩ = some (.int .i64 e) ∧ W.cell? ⟨w.heap.size, 6, none⟩ = some (.int .i64 w_) ∧ W.cell? ⟨w.heap.size, 7, none⟩ = some (.int .u32 v) ∧ W.cell? ⟨w.heap.size, 8, none⟩ = some (.int .u32 0) ∧ W.cell? ⟨w.heap.size, 9, none⟩ = some (.int .u32 0) ∧ W.cell? ⟨w.heap.size, 10, none⟩ = some (.int .u32 0) ∧ W.cell? ⟨w.heap.size, 11, none⟩ = some (.int .u32 0) ∧ W.cell? ⟨w.heap.size, 12, none⟩ = some (.bool false)) := Hid.in (fun W h => ⟨blk_cell h.bA rfl, blk_cell h.bA rfl, blk_cell h.bA rfl, blk_cell h.bA rfl, blk_cell h.bA rfl, blk_cell h.bA rfl, blk_cell h.bA rfl, blk_cell h.bA rfl, blk_cell h.bA rfl, blk_cell h.bA rfl, blk_cell h.bA rfl, blk_cell h.bA rfl, blk_cell h.bA rfl⟩)
  clear HS0
  refine wp_region_but (SMA w #[.int .i64 13, .int .i64 c, .int .i64 l, .int .i64 t, .int .i64 o, .int .i64 e, .int .i64 w_, .int .u32 v, .int .u32 0, .int .u32 0, .int .u32 0, .int .u32 0, .bool false]) 11 (by kernel_rfl) ?_
  generalize hX : W1.drew = V0 at *
  clear hX
  refine wpBut_take (i := 0) (v := ?_) rfl (by kernel_rfl) (by kernel_rfl) (by exact fun _ _ _ h => h) HS.out (Or.inl ⟨by rfl, ?_⟩) ?_
  case refine_2 => (intro W _; go_simp; try with_reducible rfl)
  simp only [Act.put, List.setIfInBounds_toArray, List.set_cons_zero, List.set_cons_succ]
  refine wpBut_take (i := 1) (v := ?_) rfl (by kernel_rfl) (by kernel_rfl) (by exact fun _ _ _ h => h) HS.out (Or.inl ⟨by rfl, ?_⟩) ?_
  case refine_2 => (intro W hSw; obtain ⟨s0, s1, s2, s3, s4, s5, s6, s7, s8, s9, s10, s11, s12⟩ := HFA.out W hSw; go_simp; try with_reducible rfl)
  simp only [Act.put, List.setIfInBounds_toArray, List.set_cons_zero, List.set_cons_succ]
  refine wpBut_take (i := 2) (v := ?_) rfl (by kernel_rfl) (by kernel_rfl) (by exact fun _ _ _ h => h) HS.out (Or.inl ⟨by rfl, ?_⟩) ?_
  case refine_2 => (intro W _; go_simp; try with_reducible rfl)
  simp only [Act.put, List.setIfInBounds_toArray, List.set_cons_zero, List.set_cons_succ]
  refine wpBut_take (i := 3) (v := ?_) rfl (by kernel_rfl) (by kernel_rfl) (by exact fun _ _ _ h => h) HS.out (Or.inl ⟨by rfl, ?_⟩) ?_
  case refine_2 => (intro W hSw; obtain ⟨s0, s1, s2, s3, s4, s5, s6, s7, s8, s9, s10, s11, s12⟩ := HFA.out W hSw; go_simp; try with_reducible rfl)
  simp only [Act.put, List.setIfInBounds_toArray, List.set_cons_zero, List.set_cons_succ]
  refine wpBut_take (i := 4) (v := ?_) rfl (by kernel_rfl) (by kernel_rfl) (by exact fun _ _ _ h => h) HS.out (Or.inl ⟨by rfl, ?_⟩) ?_
  case refine_2 => (intro W _; go_simp; try with_reducible rfl)
  simp only [Act.put, List.setIfInBounds_toArray, List.set_cons_zero, List.set_cons_succ]
  refine wpBut_take (i := 5) (v := ?_) rfl (by kernel_rfl) (by kernel_rfl) (by exact fun _ _ _ h => h) HS.out (Or.inl ⟨by rfl, ?_⟩) ?_
  case refine_2 => (intro W hSw; obtain ⟨s0, s1, s2, s3, s4, s5, s6, s7, s8, s9, s10, s11, s12⟩ := HFA.out W hSw; go_simp; try with_reducible rfl)
  simp only [Act.put, List.setIfInBounds_toArray, List.set_cons_zero, List.set_cons_succ]
  refine wpBut_take (i := 6) (v := ?_) rfl (by kernel_rfl) (by kernel_rfl) (by exact fun _ _ _ h => h) HS.out (Or.inl ⟨by rfl, ?_⟩) ?_
  case refine_2 => (intro W _; go_simp; try with_reducible rfl)
  simp only [Act.put, List.setIfInBounds_toArray, List.set_cons_zero, List.set_cons_succ]
  have z3 : V0.cell? ⟨w.heap.size + 1, 3, none⟩ = some (.int .i64 0) := blk_cell HS1.out.bB rfl
  have y3 : V0.frozen? ⟨w.heap.size + 1, 3, none⟩ = false := blk_free HS1.out.bB
  have HS2 : Hid (SM2 w #[.int .i64 13, .int .i64 c, .int .i64 l, .int .i64 t, .int .i64 o, .int .i64 e, .int .i64 w_, .int .u32 v, .int .u32 0, .int .u32 0, .int .u32 0, .int .u32 0, .bool false] #[.int .i64 13, .int .i64 c, .int .i64 l, .int .i64 t, .int .i64 o, .int .i64 e, .int .i64 0, .int .u32 0, .int .u32 0, .int .u32 0, .int .u32 0, .int .u32 0, .bool false] (V0.setCell ⟨w.heap.size + 1, 3, none⟩ (.int .i64 t))) := Hid.in (HS1.out.set 3 (.int .i64 t))
  refine wpBut_one (i := 7) rfl (by kernel_rfl) (fun K HK => ?_)
  go_simp
  generalize hX : (V0.setCell ⟨w.heap.size + 1, 3, none⟩ (.int .i64 t)) = V1 at *
  clear hX HS HS1 z3 y3
  have HS1 := HS2
  clear HS2
  have HS : Hid (SMA w #[.int .i64 13, .int .i64 c, .int .i64 l, .int .i64 t, .int .i64 o, .int .i64 e, .int .i64 w_, .int .u32 v, .int .u32 0, .int .u32 0, .int .u32 0, .int .u32 0, .bool false] V1) := Hid.in ⟨HS1.out.bA, HS1.out.be⟩
  refine HK.out _ _ (fun _ => HS.out) ?_
  clear HK K
  try simp only [Act.put, List.setIfInBounds_toArray, List.set_cons_zero, List.set_cons_succ]
  refine wpBut_take (i := 8) (v := ?_) rfl (by kernel_rfl) (by kernel_rfl) (by exact fun _ _ _ h => h) HS.out (Or.inl ⟨by rfl, ?_⟩) ?_
  case refine_2 => (intro W _; go_simp; try with_reducible rfl)
  simp only [Act.put, List.setIfInBounds_toArray, List.set_cons_zero, List.set_cons_succ]
  have z12 : V1.cell? ⟨w.heap.size + 1, 12, none⟩ = some (.bool false) := blk_cell HS1.out.bB rfl
  have y12 : V1.frozen? ⟨w.heap.size + 1, 12, none⟩ = false := blk_free HS1.out.bB
  have HS2 : Hid (SM2 w #[.int .i64 13, .int .i64 c, .int .i64 l, .int .i64 t, .int .i64 o, .int .i64 e, .int .i64 w_, .int .u32 v, .int .u32 0, .int .u32 0, .int .u32 0, .int .u32 0, .bool false] #[.int .i64 13, .int .i64 c, .int .i64 l, .int .i64 t, .int .i64 o, .int .i64 e, .int .i64 0, .int .u32 0, .int .u32 0, .int .u32 0, .int .u32 0, .int .u32 0, .bool false] (V1.setCell ⟨w.heap.size + 1, 12, none⟩ (.bool false))) := Hid.in (HS1.out.set 12 (.bool false))
  refine wpBut_one (i := 9) rfl (by kernel_rfl) (fun K HK => ?_)
  go_simp
  generalize hX : (V1.setCell ⟨w.heap.size + 1, 12, none⟩ (.bool false)) = V2 at *
  clear hX HS HS1 z12 y12
  have HS1 := HS2
  clear HS2
  have HS : Hid (SMA w #[.int .i64 13, .int .i64 c, .int .i64 l, .int .i64 t, .int .i64 o, .int .i64 e, .int .i64 w_, .int .u32 v, .int .u32 0, .int .u32 0, .int .u32 0, .int .u32 0, .bool false] V2) := Hid.in ⟨HS1.out.bA, HS1.out.be⟩
  refine HK.out _ _ (fun _ => HS.out) ?_
  clear HK K
  try simp only [Act.put, List.setIfInBounds_toArray, List.set_cons_zero, List.set_cons_succ]
  refine wpBut_take (i := 10) (v := ?_) rfl (by kernel_rfl) (by kernel_rfl) (by exact fun _ _ _ h => h) HS.out (Or.inl ⟨by rfl, ?_⟩) ?_
  case refine_2 => (intro W _; go_simp; try with_reducible rfl)
  simp only [Act.put, List.setIfInBounds_toArray, List.set_cons_zero, List.set_cons_succ]
  have z8 : V2.cell? ⟨w.heap.size + 1, 8, none⟩ = some (.int .u32 0) := blk_cell HS1.out.bB rfl
  have y8 : V2.frozen? ⟨w.heap.size + 1, 8, none⟩ = false := blk_free HS1.out.bB
  have z9 : V2.cell? ⟨w.heap.size + 1, 9, none⟩ = some (.int .u32 0) := blk_cell HS1.out.bB rfl
  have y9 : V2.frozen? ⟨w.heap.size + 1, 9, none⟩ = false := blk_free HS1.out.bB
  have z10 : V2.cell? ⟨w.heap.size + 1, 10, none⟩ = some (.int .u32 0) := blk_cell HS1.out.bB rfl
  have y10 : V2.frozen? ⟨w.heap.size + 1, 10, none⟩ = false := blk_free HS1.out.bB
  have z11 : V2.cell? ⟨w.heap.size + 1, 11, none⟩ = some (.int .u32 0) := blk_cell HS1.out.bB rfl
  have y11 : V2.frozen? ⟨w.heap.size + 1, 11, none⟩ = false := blk_free HS1.out.bB
  have HS2 : Hid (SM2 w #[.int .i64 13, .int .i64 c, .int .i64 l, .int .i64 t, .int .i64 o, .int .i64 e, .int .i64 w_, .int .u32 v, .int .u32 0, .int .u32 0, .int .u32 0, .int .u32 0, .bool false] #[.int .i64 13, .int .i64 c, .int .i64 l, .int .i64 t, .int .i64 o, .int .i64 e, .int .i64 0, .int .u32 0, .int .u32 0, .int .u32 0, .int .u32 0, .int .u32 0, .bool false] ((((V2.setCell ⟨w.heap.size + 1, 8, none⟩ (.int .u32 0)).setCell ⟨w.heap.size + 1, 9, none⟩ (.int .u32 0)).setCell ⟨w.heap.size + 1, 10, none⟩ (.int .u32 0)).setCell ⟨w.heap.size + 1, 11, none⟩ (.int .u32 0))) := Hid.in ((((HS1.out.set 8 (.int .u32 0)).set 9 (.int .u32 0)).set 10 (.int .u32 0)).set 11 (.int .u32 0))
  refine wpBut_one (i := 11) rfl (by kernel_rfl) (fun K HK => ?_)
  go_simp
  generalize hX : ((((V2.setCell ⟨w.heap.size + 1, 8, none⟩ (.int .u32 0)).setCell ⟨w.heap.size + 1, 9, none⟩ (.int .u32 0)).setCell ⟨w.heap.size + 1, 10, none⟩ (.int .u32 0)).setCell ⟨w.heap.size + 1, 11, none⟩ (.int .u32 0)) = W2 at *
  clear hX HS HS1 z8 z9 z10 z11 y8 y9 y10 y11
  have HS0 := HS2
  clear HS2 HFA
  refine HK.out _ _ (fun h => absurd rfl h) ?_
  clear HK K
  try simp only [Act.put, List.setIfInBounds_toArray, List.set_cons_zero, List.set_cons_succ]
  refine wpBut_done (by kernel_rfl) ?_ _
  have x12 : W2.cell? ⟨w.heap.size, 12, none⟩ = some (.bool false) := blk_cell HS0.out.bA rfl
  have x8 : W2.cell? ⟨w.heap.size, 8, none⟩ = some (.int .u32 0) := blk_cell HS0.out.bA rfl
  have x9 : W2.cell? ⟨w.heap.size, 9, none⟩ = some (.int .u32 0) := blk_cell HS0.out.bA rfl
  have x10 : W2.cell? ⟨w.heap.size, 10, none⟩ = some (.int .u32 0) := blk_cell HS0.out.bA rfl
  have x11 : W2.cell? ⟨w.heap.size, 11, none⟩ = some (.int .u32 0) := blk_cell HS0.out.bA rfl
  go_upto_region 17 with fail
  clear x12 x8 x9 x10 x11
  have x0 : W2.cell? ⟨w.heap.size, 0, none⟩ = some (.int .i64 13) := blk_cell HS0.out.bA rfl
  have x1 : W2.cell? ⟨w.heap.size, 1, none⟩ = some (.int .i64 c) := blk_cell HS0.out.bA rfl
  have x2 : W2.cell? ⟨w.heap.size, 2, none⟩ = some (.int .i64 l) := blk_cell HS0.out.bA rfl
  have x3 : W2.cell? ⟨w.heap.size, 3, none⟩ = some (.int .i64 t) := blk_cell HS0.out.bA rfl
  have x4 : W2.cell? ⟨w.heap.size, 4, none⟩ = some (.int .i64 o) := blk_cell HS0.out.bA rfl
  have x5 : W2.cell? ⟨w.heap.size, 5, none⟩ = some (.int .i64 e) := blk_cell HS0.out.bA rfl
  have x6 : W2.cell? ⟨w.heap.size, 6, none⟩ = some (.int .i64 w_) := blk_cell HS0.out.bA rfl
  have x7 : W2.cell? ⟨w.heap.size, 7, none⟩ = some (.int .u32 v) := blk_cell HS0.out.bA rfl
  have x8 : W2.cell? ⟨w.heap.size, 8, none⟩ = some (.int .u32 0) := blk_cell HS0.out.bA rfl
  have x9 : W2.cell? ⟨w.heap.size, 9, none⟩ = some (.int .u32 0) := blk_cell HS0.out.bA rfl
  have x10 : W2.cell? ⟨w.heap.size, 10, none⟩ = some (.int .u32 0) := blk_cell HS0.out.bA rfl
  have x11 : W2.cell? ⟨w.heap.size, 11, none⟩ = some (.int .u32 0) := blk_cell HS0.out.bA rfl
  have x12 : W2.cell? ⟨w.heap.size, 12, none⟩ = some (.bool false) := blk_cell HS0.out.bA rfl
  have y0 : W2.cell? ⟨w.heap.size + 1, 0, none⟩ = some (.int .i64 13) := blk_cell HS0.out.bB rfl
  have y1 : W2.cell? ⟨w.heap.size + 1, 1, none⟩ = some (.int .i64 c) := blk_cell HS0.out.bB rfl
  have y2 : W2.cell? ⟨w.heap.size + 1, 2, none⟩ = some (.int .i64 l) := blk_cell HS0.out.bB rfl
  have y3 : W2.cell? ⟨w.heap.size + 1, 3, none⟩ = some (.int .i64 t) := blk_cell HS0.out.bB rfl
  have y4 : W2.cell? ⟨w.heap.size + 1, 4, none⟩ = some (.int .i64 o) := blk_cell HS0.out.bB rfl
  have y5 : W2.cell? ⟨w.heap.size + 1, 5, none⟩ = some (.int .i64 e) := blk_cell HS0.out.bB rfl
  have y6 : W2.cell? ⟨w.heap.size + 1, 6, none⟩ = some (.int .i64 0) := blk_cell HS0.out.bB rfl
  have y7 : W2.cell? ⟨w.heap.size + 1, 7, none⟩ = some (.int .u32 0) := blk_cell HS0.out.bB rfl
  have y8 : W2.cell? ⟨w.heap.size + 1, 8, none⟩ = some (.int .u32 0) := blk_cell HS0.out.bB rfl
  have y9 : W2.cell? ⟨w.heap.size + 1, 9, none⟩ = some (.int .u32 0) := blk_cell HS0.out.bB rfl
  have y10 : W2.cell? ⟨w.heap.size + 1, 10, none⟩ = some (.int .u32 0) := blk_cell HS0.out.bB rfl
  have y11 : W2.cell? ⟨w.heap.size + 1, 11, none⟩ = some (.int .u32 0) := blk_cell HS0.out.bB rfl
  have y12 : W2.cell? ⟨w.heap.size + 1, 12, none⟩ = some (.bool false) := blk_cell HS0.out.bB rfl
  have hp := qsPool_any 13
  have he := fun w => eq_msgIn' (13, c, l, t, o, e, w_, v, 0, 0, 0, 0, false) (13, c, l, t, o, e, 0, 0, 0, 0, 0, 0, false) w
  simp only [mv] at he
  have HMK : Hid (maskM (13, c, l, t, o, e, w_, v, 0, 0, 0, 0, false) = (13, c, l, t, o, e, 0, 0, 0, 0, 0, 0, false)) := Hid.in (rfl)
  rw [show poolS 13 = 3 from by decide] at hp
  have hpk : (1 : Int) ≤ 13 ∧ (13 : Int) ≤ 15 := by decide
  rcases hb : eqB (13, c, l, t, o, e, w_, v, 0, 0, 0, 0, false) (13, c, l, t, o, e, 0, 0, 0, 0, 0, 0, false) with _ | _
  · rw [hb] at he
    have HRF := Hid.in (rtB_no (13, c, l, t, o, e, w_, v, 0, 0, 0, 0, false) (fun hr => by have h1 := mask_eq _ hr; rw [HMK.out] at h1; have h2 := (eqB_iff (13, c, l, t, o, e, w_, v, 0, 0, 0, 0, false) (13, c, l, t, o, e, 0, 0, 0, 0, 0, 0, false)).2 h1.symm; rw [hb] at h2; cases h2))
    go_wp2_with fail
    refine (hp _).mono ?_
    rintro r w0 ⟨rfl, rfl⟩
    go_wp2
    go_ret
    exact ⟨by rw [HRF.out]; first | rfl | simp_all, HS0.out.be⟩
  rw [hb] at he
  have HB := Hid.in hb
  clear hb
  by_cases hq : (0 ≤ c ∧ c ≤ 63) ∧ (0 ≤ l ∧ l ≤ 31) ∧ (0 ≤ w_ ∧ w_ ≤ 3) ∧ (0 ≤ o ∧ o ≤ 3) ∧ (0 ≤ e ∧ e ≤ 255) ∧ (0 ≤ t ∧ t ≤ 4)
  rotate_left
  · skip
    have HRF := Hid.in (rtB_no (13, c, l, t, o, e, w_, v, 0, 0, 0, 0, false) (fun hr => hq (by simp only [rtP] at hr; omega)))
    go_wp2_with fail
    refine (hp _).mono ?_
    rintro r w0 ⟨rfl, rfl⟩
    go_wp2
    all_goals (first | (exfalso; omega) | (go_ret; exact ⟨by rw [HRF.out]; first | rfl | simp_all, HS0.out.be⟩))
  obtain ⟨⟨q0, q1⟩, ⟨q2, q3⟩, ⟨q4, q5⟩, ⟨q6, q7⟩, ⟨q8, q9⟩, q10, q11⟩ := hq
  have HR : Hid (((13 : Int) = 13 → ¬ t = 0 ∧ ¬ t = 3) → rtP (13, c, l, t, o, e, w_, v, 0, 0, 0, 0, false)) := Hid.in (fun e2 => rt_of_mask 13 c l t o e w_ v 0 0 0 0 false (by rw [HMK.out]; exact ((eqB_iff _ _).1 HB.out).symm) hpk (by omega) (by omega) (by omega) (by omega) (by omega) (by omega) (fun _ _ => ⟨rfl, rfl, rfl, rfl⟩) e2)
  by_cases t0 : t = 0
  · subst t0
    have HRF := Hid.in (rtB_no (13, c, l, 0, o, e, w_, v, 0, 0, 0, 0, false) (by intro hr; simp [rtP] at hr))
    go_wp2_with fail
    refine (hp _).mono ?_
    rintro r w0 ⟨rfl, rfl⟩
    go_wp2
    go_ret
    exact ⟨by rw [HRF.out]; first | rfl | simp_all, HS0.out.be⟩
  by_cases t3 : t = 3
  · subst t3
    have HRF := Hid.in (rtB_no (13, c, l, 3, o, e, w_, v, 0, 0, 0, 0, false) (by intro hr; simp [rtP] at hr))
    go_wp2_with fail
    refine (hp _).mono ?_
    rintro r w0 ⟨rfl, rfl⟩
    go_wp2
    go_ret
    exact ⟨by rw [HRF.out]; first | rfl | simp_all, HS0.out.be⟩
  have f0 : (t != (0 : Int)) = true := by simpa using t0
  have f3 : (t != (3 : Int)) = true := by simpa using t3
  have HRF := Hid.in ((rtB_iff _).2 (HR.out (fun _ => ⟨t0, t3⟩)))
  go_wp2_with fail
  refine (hp _).mono ?_
  rintro r w0 ⟨rfl, rfl⟩
  go_wp2
  go_ret
  exact ⟨by rw [HRF.out]; first | rfl | simp_all, HS0.out.be⟩

end Go.Proofs.YtakomlmbdienpaaDoor

namespace Go.Proofs.YtakomlmbdienpaaDoor
open Go.RowKit Go.Extern.Stop Go.Stop Go.Extern

set_option linter.unusedVariables false in
set_option maxHeartbeats 12800000 in
set_option maxRecDepth 20000 in
theorem qsRight_D1 (w : World) (c l t o e w_ v d0 d1 d2 d3 : Int) :
    Calls Tryd.prog 37 #[.agg #[.int .i64 13, .int .i64 c, .int .i64 l, .int .i64 t, .int .i64 o, .int .i64 e, .int .i64 w_, .int .u32 v, .int .u32 d0, .int .u32 d1, .int .u32 d2, .int .u32 d3, .bool true]] w fun r w' => r = .returned (.bool (rtB (13, c, l, t, o, e, w_, v, d0, d1, d2, d3, true))) ∧ Below w.heap.size w w' := by
  have HS0 : Hid (SM2 w #[.int .i64 13, .int .i64 c, .int .i64 l, .int .i64 t, .int .i64 o, .int .i64 e, .int .i64 w_, .int .u32 v, .int .u32 d0, .int .u32 d1, .int .u32 d2, .int .u32 d3, .bool true] #[.int .i64 13, .int .i64 c, .int .i64 l, .int .i64 0, .int .i64 0, .int .i64 0, .int .i64 0, .int .u32 0, .int .u32 0, .int .u32 0, .int .u32 0, .int .u32 0, .bool false] ((w.alloc (.cells #[.int .i64 13, .int .i64 c, .int .i64 l, .int .i64 t, .int .i64 o, .int .i64 e, .int .i64 w_, .int .u32 v, .int .u32 d0, .int .u32 d1, .int .u32 d2, .int .u32 d3, .bool true] 32)).alloc (.cells #[.int .i64 13, .int .i64 c, .int .i64 l, .int .i64 0, .int .i64 0, .int .i64 0, .int .i64 0, .int .u32 0, .int .u32 0, .int .u32 0, .int .u32 0, .int .u32 0, .bool false] 32))) := Hid.in (SM2.start _ _ _)
  have hA := heap_alloc_new w (.cells #[.int .i64 13, .int .i64 c, .int .i64 l, .int .i64 t, .int .i64 o, .int .i64 e, .int .i64 w_, .int .u32 v, .int .u32 d0, .int .u32 d1, .int .u32 d2, .int .u32 d3, .bool true] 32)
  have x0 : (w.alloc (.cells #[.int .i64 13, .int .i64 c, .int .i64 l, .int .i64 t, .int .i64 o, .int .i64 e, .int .i64 w_, .int .u32 v, .int .u32 d0, .int .u32 d1, .int .u32 d2, .int .u32 d3, .bool true] 32)).cell? ⟨w.heap.size, 0, none⟩ = some (.int .i64 13) := blk_cell hA rfl
  have x1 : (w.alloc (.cells #[.int .i64 13, .int .i64 c, .int .i64 l, .int .i64 t, .int .i64 o, .int .i64 e, .int .i64 w_, .int .u32 v, .int .u32 d0, .int .u32 d1, .int .u32 d2, .int .u32 d3, .bool true] 32)).cell? ⟨w.heap.size, 1, none⟩ = some (.int .i64 c) := blk_cell hA rfl
  have x2 : (w.alloc (.cells #[.int .i64 13, .int .i64 c, .int .i64 l, .int .i64 t, .int .i64 o, .int .i64 e, .int .i64 w_, .int .u32 v, .int .u32 d0, .int .u32 d1, .int .u32 d2, .int .u32 d3, .bool true] 32)).cell? ⟨w.heap.size, 2, none⟩ = some (.int .i64 l) := blk_cell hA rfl
  have x3 : (w.alloc (.cells #[.int .i64 13, .int .i64 c, .int .i64 l, .int .i64 t, .int .i64 o, .int .i64 e, .int .i64 w_, .int .u32 v, .int .u32 d0, .int .u32 d1, .int .u32 d2, .int .u32 d3, .bool true] 32)).cell? ⟨w.heap.size, 3, none⟩ = some (.int .i64 t) := blk_cell hA rfl
  have x4 : (w.alloc (.cells #[.int .i64 13, .int .i64 c, .int .i64 l, .int .i64 t, .int .i64 o, .int .i64 e, .int .i64 w_, .int .u32 v, .int .u32 d0, .int .u32 d1, .int .u32 d2, .int .u32 d3, .bool true] 32)).cell? ⟨w.heap.size, 4, none⟩ = some (.int .i64 o) := blk_cell hA rfl
  have x5 : (w.alloc (.cells #[.int .i64 13, .int .i64 c, .int .i64 l, .int .i64 t, .int .i64 o, .int .i64 e, .int .i64 w_, .int .u32 v, .int .u32 d0, .int .u32 d1, .int .u32 d2, .int .u32 d3, .bool true] 32)).cell? ⟨w.heap.size, 5, none⟩ = some (.int .i64 e) := blk_cell hA rfl
  have x6 : (w.alloc (.cells #[.int .i64 13, .int .i64 c, .int .i64 l, .int .i64 t, .int .i64 o, .int .i64 e, .int .i64 w_, .int .u32 v, .int .u32 d0, .int .u32 d1, .int .u32 d2, .int .u32 d3, .bool true] 32)).cell? ⟨w.heap.size, 6, none⟩ = some (.int .i64 w_) := blk_cell hA rfl
  have x7 : (w.alloc (.cells #[.int .i64 13, .int .i64 c, .int .i64 l, .int .i64 t, .int .i64 o, .int .i64 e, .int .i64 w_, .int .u32 v, .int .u32 d0, .int .u32 d1, .int .u32 d2, .int .u32 d3, .bool true] 32)).cell? ⟨w.heap.size, 7, none⟩ = some (.int .u32 v) := blk_cell hA rfl
  have x8 : (w.alloc (.cells #[.int .i64 13, .int .i64 c, .int .i64 l, .int .i64 t, .int .i64 o, .int .i64 e, .int .i64 w_, .int .u32 v, .int .u32 d0, .int .u32 d1, .int .u32 d2, .int .u32 d3, .bool true] 32)).cell? ⟨w.heap.size, 8, none⟩ = some (.int .u32 d0) := blk_cell hA rfl
  have x9 : (w.alloc (.cells #[.int .i64 13, .int .i64 c, .int .i64 l, .int .i64 t, .int .i64 o, .int .i64 e, .int .i64 w_, .int .u32 v, .int .u32 d0, .int .u32 d1, .int .u32 d2, .int .u32 d3, .bool true] 32)).cell? ⟨w.heap.size, 9, none⟩ = some (.int .u32 d1) := blk_cell hA rfl
  have x10 : (w.alloc (.cells #[.int .i64 13, .int .i64 c, .int .i64 l, .int .i64 t, .int .i64 o, .int .i64 e, .int .i64 w_, .int .u32 v, .int .u32 d0, .int .u32 d1, .int .u32 d2, .int .u32 d3, .bool true] 32)).cell? ⟨w.heap.size, 10, none⟩ = some (.int .u32 d2) := blk_cell hA rfl
  have x11 : (w.alloc (.cells #[.int .i64 13, .int .i64 c, .int .i64 l, .int .i64 t, .int .i64 o, .int .i64 e, .int .i64 w_, .int .u32 v, .int .u32 d0, .int .u32 d1, .int .u32 d2, .int .u32 d3, .bool true] 32)).cell? ⟨w.heap.size, 11, none⟩ = some (.int .u32 d3) := blk_cell hA rfl
  have x12 : (w.alloc (.cells #[.int .i64 13, .int .i64 c, .int .i64 l, .int .i64 t, .int .i64 o, .int .i64 e, .int .i64 w_, .int .u32 v, .int .u32 d0, .int .u32 d1, .int .u32 d2, .int .u32 d3, .bool true] 32)).cell? ⟨w.heap.size, 12, none⟩ = some (.bool true) := blk_cell hA rfl
  clear hA
  go_enter Tryd.func37, Tryd.ntmps37
  go_upto_region 2 with fail
  generalize hX : ((w.alloc (.cells #[.int .i64 13, .int .i64 c, .int .i64 l, .int .i64 t, .int .i64 o, .int .i64 e, .int .i64 w_, .int .u32 v, .int .u32 d0, .int .u32 d1, .int .u32 d2, .int .u32 d3, .bool true] 32)).alloc (.cells #[.int .i64 13, .int .i64 c, .int .i64 l, .int .i64 0, .int .i64 0, .int .i64 0, .int .i64 0, .int .u32 0, .int .u32 0, .int .u32 0, .int .u32 0, .int .u32 0, .bool false] 32)) = W0 at *
  clear hX x0 x1 x2 x3 x4 x5 x6 x7 x8 x9 x10 x11 x12
  have p0 : W0.cell? ⟨w.heap.size, 0, none⟩ = some (.int .i64 13) := blk_cell HS0.out.bA rfl
  go_upto_region 10 with fail
  clear p0
  have HS1 : Hid (SM2 w #[.int .i64 13, .int .i64 c, .int .i64 l, .int .i64 t, .int .i64 o, .int .i64 e, .int .i64 w_, .int .u32 v, .int .u32 d0, .int .u32 d1, .int .u32 d2, .int .u32 d3, .bool true] #[.int .i64 13, .int .i64 c, .int .i64 l, .int .i64 0, .int .i64 0, .int .i64 0, .int .i64 0, .int .u32 0, .int .u32 0, .int .u32 0, .int .u32 0, .int .u32 0, .bool false] W0.drew) := Hid.in (HS0.out.step (Below.refl _ _).drew)
  have HS : Hid (SMA w #[.int .i64 13, .int .i64 c, .int .i64 l, .int .i64 t, .int .i64 o, .int .i64 e, .int .i64 w_, .int .u32 v, .int .u32 d0, .int .u32 d1, .int .u32 d2, .int .u32 d3, .bool true] W0.drew) := Hid.in ⟨HS1.out.bA, HS1.out.be⟩
  have HFA : Hid (∀ W, SMA w #[.int .i64 13, .int .i64 c, .int .i64 l, .int .i64 t, .int .i64 o, .int .i64 e, .int .i64 w_, .int .u32 v, .int .u32 d0, .int .u32 d1, .int .u32 d2, .int .u32 d3, .bool true] W → W.cell? ⟨w.heap.size, 0, none⟩ = some (.int .i64 13) ∧ W.cell? ⟨w.heap.size, 1, none⟩ = some (.int .i64 c) ∧ W.cell? ⟨w.heap.size, 2, none⟩ = some (.int .i64 l) ∧ W.cell? ⟨w.heap.size, 3, none⟩ = some (.int .i64 t) ∧ W.cell? ⟨w.heap.size, 4, none⟩ = some (.int .i64 o) ∧ W.cell? ⟨w.heap.size, 5, none⟩ = some (.int .i64 e) ∧ W.cell? ⟨w.heap.size, 6, none⟩ = some (.int .i64 w_) ∧ W.cell? ⟨w.heap.size, 7, none⟩ = some (.int .u32 v) ∧ W.cell? ⟨w.heap.size, 8, none⟩ = some (.int .u32 d0) ∧ W.cell? ⟨w.heap.size, 9, none⟩ = some (.int .u32 d1) ∧ W.cell? ⟨w.heap.size, 10, none⟩ = some (.int .u32 d2) ∧ W.cell? ⟨w.heap.size, 11, none⟩ = some (.int .u32 d3) ∧ W.cell? ⟨w.heap.size, 12, none⟩ = some (.bool true)) := Hid.in (fun W h => ⟨blk_cell h.bA rfl, blk_cell h.bA rfl, blk_cell h.bA rfl, blk_cell h.bA rfl, blk_cell h.bA rfl, blk_cell h.bA rfl, blk_cell h.bA rfl, blk_cell h.bA rfl, blk_cell h.bA rfl, blk_cell h.bA rfl, blk_cell h.bA rfl, blk_cell h.bA rfl, blk_cell h.bA rfl⟩)
  clear HS0
  refine wp_region_but (SMA w #[.int .i64 13, .int .i64 c, .int .i64 l, .int .i64 t, .int .i64 o, .int .i64 e, .int .i64 w_, .int .u32 v, .int .u32 d0, .int .u32 d1, .int .u32 d2, .int .u32 d3, .bool true]) 7 (by kernel_rfl) ?_
  generalize hX : W0.drew = V0 at *
  clear hX
  refine wpBut_take (i := 0) (v := ?_) rfl (by kernel_rfl) (by kernel_rfl) (by exact fun _ _ _ h => h) HS.out (Or.inl ⟨by rfl, ?_⟩) ?_
  case refine_2 => (intro W _; go_simp; try with_reducible rfl)
  simp only [Act.put, List.setIfInBounds_toArray, List.set_cons_zero, List.set_cons_succ]
  refine wpBut_take (i := 1) (v := ?_) rfl (by kernel_rfl) (by kernel_rfl) (by exact fun _ _ _ h => h) HS.out (Or.inl ⟨by rfl, ?_⟩) ?_
  case refine_2 => (intro W hSw; obtain ⟨s0, s1, s2, s3, s4, s5, s6, s7, s8, s9, s10, s11, s12⟩ := HFA.out W hSw; go_simp; try with_reducible rfl)
  simp only [Act.put, List.setIfInBounds_toArray, List.set_cons_zero, List.set_cons_succ]
  refine wpBut_take (i := 2) (v := ?_) rfl (by kernel_rfl) (by kernel_rfl) (by exact fun _ _ _ h => h) HS.out (Or.inl ⟨by rfl, ?_⟩) ?_
  case refine_2 => (intro W _; go_simp; try with_reducible rfl)
  simp only [Act.put, List.setIfInBounds_toArray, List.set_cons_zero, List.set_cons_succ]
  refine wpBut_take (i := 3) (v := ?_) rfl (by kernel_rfl) (by kernel_rfl) (by exact fun _ _ _ h => h) HS.out (Or.inl ⟨by rfl, ?_⟩) ?_
  case refine_2 => (intro W hSw; obtain ⟨s0, s1, s2, s3, s4, s5, s6, s7, s8, s9, s10, s11, s12⟩ := HFA.out W hSw; go_simp; try with_reducible rfl)
  simp only [Act.put, List.setIfInBounds_toArray, List.set_cons_zero, List.set_cons_succ]
  refine wpBut_take (i := 4) (v := ?_) rfl (by kernel_rfl) (by kernel_rfl) (by exact fun _ _ _ h => h) HS.out (Or.inl ⟨by rfl, ?_⟩) ?_
  case refine_2 => (intro W _; go_simp; try with_reducible rfl)
  simp only [Act.put, List.setIfInBounds_toArray, List.set_cons_zero, List.set_cons_succ]
  have z4 : V0.cell? ⟨w.heap.size + 1, 4, none⟩ = some (.int .i64 0) := blk_cell HS1.out.bB rfl
  have y4 : V0.frozen? ⟨w.heap.size + 1, 4, none⟩ = false := blk_free HS1.out.bB
  have HS2 : Hid (SM2 w #[.int .i64 13, .int .i64 c, .int .i64 l, .int .i64 t, .int .i64 o, .int .i64 e, .int .i64 w_, .int .u32 v, .int .u32 d0, .int .u32 d1, .int .u32 d2, .int .u32 d3, .bool true] #[.int .i64 13, .int .i64 c, .int .i64 l, .int .i64 0, .int .i64 o, .int .i64 0, .int .i64 0, .int .u32 0, .int .u32 0, .int .u32 0, .int .u32 0, .int .u32 0, .bool false] (V0.setCell ⟨w.heap.size + 1, 4, none⟩ (.int .i64 o))) := Hid.in (HS1.out.set 4 (.int .i64 o))
  refine wpBut_one (i := 5) rfl (by kernel_rfl) (fun K HK => ?_)
  go_simp
  generalize hX : (V0.setCell ⟨w.heap.size + 1, 4, none⟩ (.int .i64 o)) = V1 at *
  clear hX HS HS1 z4 y4
  have HS1 := HS2
  clear HS2
  have HS : Hid (SMA w #[.int .i64 13, .int .i64 c, .int .i64 l, .int .i64 t, .int .i64 o, .int .i64 e, .int .i64 w_, .int .u32 v, .int .u32 d0, .int .u32 d1, .int .u32 d2, .int .u32 d3, .bool true] V1) := Hid.in ⟨HS1.out.bA, HS1.out.be⟩
  refine HK.out _ _ (fun _ => HS.out) ?_
  clear HK K
  try simp only [Act.put, List.setIfInBounds_toArray, List.set_cons_zero, List.set_cons_succ]
  refine wpBut_take (i := 6) (v := ?_) rfl (by kernel_rfl) (by kernel_rfl) (by exact fun _ _ _ h => h) HS.out (Or.inl ⟨by rfl, ?_⟩) ?_
  case refine_2 => (intro W _; go_simp; try with_reducible rfl)
  simp only [Act.put, List.setIfInBounds_toArray, List.set_cons_zero, List.set_cons_succ]
  have z5 : V1.cell? ⟨w.heap.size + 1, 5, none⟩ = some (.int .i64 0) := blk_cell HS1.out.bB rfl
  have y5 : V1.frozen? ⟨w.heap.size + 1, 5, none⟩ = false := blk_free HS1.out.bB
  have HS2 : Hid (SM2 w #[.int .i64 13, .int .i64 c, .int .i64 l, .int .i64 t, .int .i64 o, .int .i64 e, .int .i64 w_, .int .u32 v, .int .u32 d0, .int .u32 d1, .int .u32 d2, .int .u32 d3, .bool true] #[.int .i64 13, .int .i64 c, .int .i64 l, .int .i64 0, .int .i64 o, .int .i64 e, .int .i64 0, .int .u32 0, .int .u32 0, .int .u32 0, .int .u32 0, .int .u32 0, .bool false] (V1.setCell ⟨w.heap.size + 1, 5, none⟩ (.int .i64 e))) := Hid.in (HS1.out.set 5 (.int .i64 e))
  refine wpBut_one (i := 7) rfl (by kernel_rfl) (fun K HK => ?_)
  go_simp
  generalize hX : (V1.setCell ⟨w.heap.size + 1, 5, none⟩ (.int .i64 e)) = W1 at *
  clear hX HS HS1 z5 y5
  have HS0 := HS2
  clear HS2 HFA
  refine HK.out _ _ (fun h => absurd rfl h) ?_
  clear HK K
  try simp only [Act.put, List.setIfInBounds_toArray, List.set_cons_zero, List.set_cons_succ]
  refine wpBut_done (by kernel_rfl) ?_ _
  go_upto_region 11 with fail
  have HS1 : Hid (SM2 w #[.int .i64 13, .int .i64 c, .int .i64 l, .int .i64 t, .int .i64 o, .int .i64 e, .int .i64 w_, .int .u32 v, .int .u32 d0, .int .u32 d1, .int .u32 d2, .int .u32 d3, .bool true] #[.int .i64 13, .int .i64 c, .int .i64 l, .int .i64 0, .int .i64 o, .int .i64 e, .int .i64 0, .int .u32 0, .int .u32 0, .int .u32 0, .int .u32 0, .int .u32 0, .bool false] W1.drew) := Hid.in (HS0.out.step (Below.refl _ _).drew)
  have HS : Hid (SMA w #[.int .i64 13, .int .i64 c, .int .i64 l, .int .i64 t, .int .i64 o, .int .i64 e, .int .i64 w_, .int .u32 v, .int .u32 d0, .int .u32 d1, .int .u32 d2, .int .u32 d3, .bool true] W1.drew) := Hid.in ⟨HS1.out.bA, HS1.out.be⟩
  have HFA : Hid (∀ W, SMA w #[.int .i64 13, .int .i64 c, .int .i64 l, .int .i64 t, .int .i64 o, .int .i64 e, .int .i64 w_, .int .u32 v, .int .u32 d0, .int .u32 d1, .int .u32 d2, .int .u32 d3, .bool true] W → W.cell? ⟨w.heap.size, 0, none⟩ = some (.int .i64 13) ∧ W.cell? ⟨w.heap.size, 1, none⟩ = some (.int .i64 c) ∧ W.cell? ⟨w.heap.size, 2, none⟩ = some (.int .i64 l) ∧ W.cell? ⟨w.heap.size, 3, none⟩ = some (.int .i64 t) ∧ W.cell? ⟨w.heap.size, 4, none⟩ = some (.int .i64 o) ∧ W.cell? ⟨w.heap.size, 5, none⟩ = some (.int .i64 e) ∧ W.cell? ⟨w.heap.size, 6, none⟩ = some (.int .i64 w_) ∧ W.cell? ⟨w.heap.size, 7, none⟩ = some (.int .u32 v) ∧ W.cell? ⟨w.heap.size, 8, none⟩ = some (.int .u32 d0) ∧ W.cell? ⟨w.heap.size, 9, none⟩ = some (.int .u32 d1) ∧ W.cell? ⟨w.heap.size, 10, none⟩ = some (.int .u32 d2) ∧ W.cell? ⟨w.heap.size, 11, none⟩ = some (.int .u32 d3) ∧ W.cell? ⟨w.heap.size, 12, none⟩ = some (.bool true)) := Hid.in (fun W h => ⟨blk_cell h.bA rfl, blk_cell h.bA rfl, blk_cell h.bA rfl, blk_cell h.bA rfl, blk_cell h.bA rfl, blk_cell h.bA rfl, blk_cell h.bA rfl, blk_cell h.bA rfl, blk_cell h.bA rfl, blk_cell h.bA rfl, blk_cell h.bA rfl, blk_cell h.bA rfl, blk_cell h.bA rfl⟩)
  clear HS0
  refine wp_region_but (SMA w #[.int .i64 13, .int .i64 c, .int .i64 l, .int .i64 t, .int .i64 o, .int .i64 e, .int .i64 w_, .int .u32 v, .int .u32 d0, .int .u32 d1, .int .u32 d2, .int .u32 d3, .bool true]) 11 (by kernel_rfl) ?_
  generalize hX : W1.drew = V0 at *
  clear hX
  refine wpBut_take (i := 0) (v := ?_) rfl (by kernel_rfl) (by kernel_rfl) (by exact fun _ _ _ h => h) HS.out (Or.inl ⟨by rfl, ?_⟩) ?_
  case refine_2 => (intro W _; go_simp; try with_reducible rfl)
  simp only [Act.put, List.setIfInBounds_toArray, List.set_cons_zero, List.set_cons_succ]
  refine wpBut_take (i := 1) (v := ?_) rfl (by kernel_rfl) (by kernel_rfl) (by exact fun _ _ _ h => h) HS.out (Or.inl ⟨by rfl, ?_⟩) ?_
  case refine_2 => (intro W hSw; obtain ⟨s0, s1, s2, s3, s4, s5, s6, s7, s8, s9, s10, s11, s12⟩ := HFA.out W hSw; go_simp; try with_reducible rfl)
  simp only [Act.put, List.setIfInBounds_toArray, List.set_cons_zero, List.set_cons_succ]
  refine wpBut_take (i := 2) (v := ?_) rfl (by kernel_rfl) (by kernel_rfl) (by exact fun _ _ _ h => h) HS.out (Or.inl ⟨by rfl, ?_⟩) ?_
  case refine_2 => (intro W _; go_simp; try with_reducible rfl)
  simp only [Act.put, List.setIfInBounds_toArray, List.set_cons_zero, List.set_cons_succ]
  refine wpBut_take (i := 3) (v := ?_) rfl (by kernel_rfl) (by kernel_rfl) (by exact fun _ _ _ h => h) HS.out (Or.inl ⟨by rfl, ?_⟩) ?_
  case refine_2 => (intro W hSw; obtain ⟨s0, s1, s2, s3, s4, s5, s6, s7, s8, s9, s10, s11, s12⟩ := HFA.out W hSw; go_simp; try with_reducible rfl)
  simp only [Act.put, List.setIfInBounds_toArray, List.set_cons_zero, List.set_cons_succ]
  refine wpBut_take (i := 4) (v := ?_) rfl (by kernel_rfl) (by kernel_rfl) (by exact fun _ _ _ h => h) HS.out (Or.inl ⟨by rfl, ?_⟩) ?_
  case refine_2 => (intro W _; go_simp; try with_reducible rfl)
  simp only [Act.put, List.setIfInBounds_toArray, List.set_cons_zero, List.set_cons_succ]
  refine wpBut_take (i := 5) (v := ?_) rfl (by kernel_rfl) (by kernel_rfl) (by exact fun _ _ _ h => h) HS.out (Or.inl ⟨by rfl, ?_⟩) ?_
  case refine_2 => (intro W hSw; obtain ⟨s0, s1, s2, s3, s4, s5, s6, s7, s8, s9, s10, s11, s12⟩ := HFA.out W hSw; go_simp; try with_reducible rfl)
  simp only [Act.put, List.setIfInBounds_toArray, List.set_cons_zero, List.set_cons_succ]
  refine wpBut_take (i := 6) (v := ?_) rfl (by kernel_rfl) (by kernel_rfl) (by exact fun _ _ _ h => h) HS.out (Or.inl ⟨by rfl, ?_⟩) ?_
  case refine_2 => (intro W _; go_simp; try with_reducible rfl)
  simp only [Act.put, List.setIfInBounds_toArray, List.set_cons_zero, List.set_cons_succ]
  have z3 : V0.cell? ⟨w.heap.size + 1, 3, none⟩ = some (.int .i64 0) := blk_cell HS1.out.bB rfl
  have y3 : V0.frozen? ⟨w.heap.size + 1, 3, none⟩ = false := blk_free HS1.out.bB
  have HS2 : Hid (SM2 w #[.int .i64 13, .int .i64 c, .int .i64 l, .int .i64 t, .int .i64 o, .int .i64 e, .int .i64 w_, .int .u32 v, .int .u32 d0, .int .u32 d1, .int .u32 d2, .int .u32 d3, .bool true] #[.int .i64 13, .int .i64 c, .int .i64 l, .int .i64 t, .int .i64 o, .int .i64 e, .int .i64 0, .int .u32 0, .int .u32 0, .int .u32 0, .int .u32 0, .int .u32 0, .bool false] (V0.setCell ⟨w.heap.size + 1, 3, none⟩ (.int .i64 t))) := Hid.in (HS1.out.set 3 (.int .i64 t))
  refine wpBut_one (i := 7) rfl (by kernel_rfl) (fun K HK => ?_)
  go_simp
  generalize hX : (V0.setCell ⟨w.heap.size + 1, 3, none⟩ (.int .i64 t)) = V1 at *
  clear hX HS HS1 z3 y3
  have HS1 := HS2
  clear HS2
  have HS : Hid (SMA w #[.int .i64 13, .int .i64 c, .int .i64 l, .int .i64 t, .int .i64 o, .int .i64 e, .int .i64 w_, .int .u32 v, .int .u32 d0, .int .u32 d1, .int .u32 d2, .int .u32 d3, .bool true] V1) := Hid.in ⟨HS1.out.bA, HS1.out.be⟩
  refine HK.out _ _ (fun _ => HS.out) ?_
  clear HK K
  try simp only [Act.put, List.setIfInBounds_toArray, List.set_cons_zero, List.set_cons_succ]
  refine wpBut_take (i := 8) (v := ?_) rfl (by kernel_rfl) (by kernel_rfl) (by exact fun _ _ _ h => h) HS.out (Or.inl ⟨by rfl, ?_⟩) ?_
  case refine_2 => (intro W _; go_simp; try with_reducible rfl)
  simp only [Act.put, List.setIfInBounds_toArray, List.set_cons_zero, List.set_cons_succ]
  have z12 : V1.cell? ⟨w.heap.size + 1, 12, none⟩ = some (.bool false) := blk_cell HS1.out.bB rfl
  have y12 : V1.frozen? ⟨w.heap.size + 1, 12, none⟩ = false := blk_free HS1.out.bB
  have HS2 : Hid (SM2 w #[.int .i64 13, .int .i64 c, .int .i64 l, .int .i64 t, .int .i64 o, .int .i64 e, .int .i64 w_, .int .u32 v, .int .u32 d0, .int .u32 d1, .int .u32 d2, .int .u32 d3, .bool true] #[.int .i64 13, .int .i64 c, .int .i64 l, .int .i64 t, .int .i64 o, .int .i64 e, .int .i64 0, .int .u32 0, .int .u32 0, .int .u32 0, .int .u32 0, .int .u32 0, .bool true] (V1.setCell ⟨w.heap.size + 1, 12, none⟩ (.bool true))) := Hid.in (HS1.out.set 12 (.bool true))
  refine wpBut_one (i := 9) rfl (by kernel_rfl) (fun K HK => ?_)
  go_simp
  generalize hX : (V1.setCell ⟨w.heap.size + 1, 12, none⟩ (.bool true)) = V2 at *
  clear hX HS HS1 z12 y12
  have HS1 := HS2
  clear HS2
  have HS : Hid (SMA w #[.int .i64 13, .int .i64 c, .int .i64 l, .int .i64 t, .int .i64 o, .int .i64 e, .int .i64 w_, .int .u32 v, .int .u32 d0, .int .u32 d1, .int .u32 d2, .int .u32 d3, .bool true] V2) := Hid.in ⟨HS1.out.bA, HS1.out.be⟩
  refine HK.out _ _ (fun _ => HS.out) ?_
  clear HK K
  try simp only [Act.put, List.setIfInBounds_toArray, List.set_cons_zero, List.set_cons_succ]
  refine wpBut_take (i := 10) (v := ?_) rfl (by kernel_rfl) (by kernel_rfl) (by exact fun _ _ _ h => h) HS.out (Or.inl ⟨by rfl, ?_⟩) ?_
  case refine_2 => (intro W _; go_simp; try with_reducible rfl)
  simp only [Act.put, List.setIfInBounds_toArray, List.set_cons_zero, List.set_cons_succ]
  have z8 : V2.cell? ⟨w.heap.size + 1, 8, none⟩ = some (.int .u32 0) := blk_cell HS1.out.bB rfl
  have y8 : V2.frozen? ⟨w.heap.size + 1, 8, none⟩ = false := blk_free HS1.out.bB
  have z9 : V2.cell? ⟨w.heap.size + 1, 9, none⟩ = some (.int .u32 0) := blk_cell HS1.out.bB rfl
  have y9 : V2.frozen? ⟨w.heap.size + 1, 9, none⟩ = false := blk_free HS1.out.bB
  have z10 : V2.cell? ⟨w.heap.size + 1, 10, none⟩ = some (.int .u32 0) := blk_cell HS1.out.bB rfl
  have y10 : V2.frozen? ⟨w.heap.size + 1, 10, none⟩ = false := blk_free HS1.out.bB
  have z11 : V2.cell? ⟨w.heap.size + 1, 11, none⟩ = some (.int .u32 0) := blk_cell HS1.out.bB rfl
  have y11 : V2.frozen? ⟨w.heap.size + 1, 11, none⟩ = false := blk_free HS1.out.bB
  have HS2 : Hid (SM2 w #[.int .i64 13, .int .i64 c, .int .i64 l, .int .i64 t, .int .i64 o, .int .i64 e, .int .i64 w_, .int .u32 v, .int .u32 d0, .int .u32 d1, .int .u32 d2, .int .u32 d3, .bool true] #[.int .i64 13, .int .i64 c, .int .i64 l, .int .i64 t, .int .i64 o, .int .i64 e, .int .i64 0, .int .u32 0, .int .u32 d0, .int .u32 d1, .int .u32 d2, .int .u32 d3, .bool true] ((((V2.setCell ⟨w.heap.size + 1, 8, none⟩ (.int .u32 d0)).setCell ⟨w.heap.size + 1, 9, none⟩ (.int .u32 d1)).setCell ⟨w.heap.size + 1, 10, none⟩ (.int .u32 d2)).setCell ⟨w.heap.size + 1, 11, none⟩ (.int .u32 d3))) := Hid.in ((((HS1.out.set 8 (.int .u32 d0)).set 9 (.int .u32 d1)).set 10 (.int .u32 d2)).set 11 (.int .u32 d3))
  refine wpBut_one (i := 11) rfl (by kernel_rfl) (fun K HK => ?_)
  go_simp
  generalize hX : ((((V2.setCell ⟨w.heap.size + 1, 8, none⟩ (.int .u32 d0)).setCell ⟨w.heap.size + 1, 9, none⟩ (.int .u32 d1)).setCell ⟨w.heap.size + 1, 10, none⟩ (.int .u32 d2)).setCell ⟨w.heap.size + 1, 11, none⟩ (.int .u32 d3)) = W2 at *
  clear hX HS HS1 z8 z9 z10 z11 y8 y9 y10 y11
  have HS0 := HS2
  clear HS2 HFA
  refine HK.out _ _ (fun h => absurd rfl h) ?_
  clear HK K
  try simp only [Act.put, List.setIfInBounds_toArray, List.set_cons_zero, List.set_cons_succ]
  refine wpBut_done (by kernel_rfl) ?_ _
  have x12 : W2.cell? ⟨w.heap.size, 12, none⟩ = some (.bool true) := blk_cell HS0.out.bA rfl
  have x8 : W2.cell? ⟨w.heap.size, 8, none⟩ = some (.int .u32 d0) := blk_cell HS0.out.bA rfl
  have x9 : W2.cell? ⟨w.heap.size, 9, none⟩ = some (.int .u32 d1) := blk_cell HS0.out.bA rfl
  have x10 : W2.cell? ⟨w.heap.size, 10, none⟩ = some (.int .u32 d2) := blk_cell HS0.out.bA rfl
  have x11 : W2.cell? ⟨w.heap.size, 11, none⟩ = some (.int .u32 d3) := blk_cell HS0.out.bA rfl
  go_upto_region 17 with fail
  clear x12 x8 x9 x10 x11
  have x0 : W2.cell? ⟨w.heap.size, 0, none⟩ = some (.int .i64 13) := blk_cell HS0.out.bA rfl
  have x1 : W2.cell? ⟨w.heap.size, 1, none⟩ = some (.int .i64 c) := blk_cell HS0.out.bA rfl
  have x2 : W2.cell? ⟨w.heap.size, 2, none⟩ = some (.int .i64 l) := blk_cell HS0.out.bA rfl
  have x3 : W2.cell? ⟨w.heap.size, 3, none⟩ = some (.int .i64 t) := blk_cell HS0.out.bA rfl
  have x4 : W2.cell? ⟨w.heap.size, 4, none⟩ = some (.int .i64 o) := blk_cell HS0.out.bA rfl
  have x5 : W2.cell? ⟨w.heap.size, 5, none⟩ = some (.int .i64 e) := blk_cell HS0.out.bA rfl
  have x6 : W2.cell? ⟨w.heap.size, 6, none⟩ = some (.int .i64 w_) := blk_cell HS0.out.bA rfl
  have x7 : W2.cell? ⟨w.heap.size, 7, none⟩ = some (.int .u32 v) := blk_cell HS0.out.bA rfl
  have x8 : W2.cell? ⟨w.heap.size, 8, none⟩ = some (.int .u32 d0) := blk_cell HS0.out.bA rfl
  have x9 : W2.cell? ⟨w.heap.size, 9, none⟩ = some (.int .u32 d1) := blk_cell HS0.out.bA rfl
  have x10 : W2.cell? ⟨w.heap.size, 10, none⟩ = some (.int .u32 d2) := blk_cell HS0.out.bA rfl
  have x11 : W2.cell? ⟨w.heap.size, 11, none⟩ = some (.int .u32 d3) := blk_cell HS0.out.bA rfl
  have x12 : W2.cell? ⟨w.heap.size, 12, none⟩ = some (.bool true) := blk_cell HS0.out.bA rfl
  have y0 : W2.cell? ⟨w.heap.size + 1, 0, none⟩ = some (.int .i64 13) := blk_cell HS0.out.bB rfl
  have y1 : W2.cell? ⟨w.heap.size + 1, 1, none⟩ = some (.int .i64 c) := blk_cell HS0.out.bB rfl
  have y2 : W2.cell? ⟨w.heap.size + 1, 2, none⟩ = some (.int .i64 l) := blk_cell HS0.out.bB rfl
  have y3 : W2.cell? ⟨w.heap.size + 1, 3, none⟩ = some (.int .i64 t) := blk_cell HS0.out.bB rfl
  have y4 : W2.cell? ⟨w.heap.size + 1, 4, none⟩ = some (.int .i64 o) := blk_cell HS0.out.bB rfl
  have y5 : W2.cell? ⟨w.heap.size + 1, 5, none⟩ = some (.int .i64 e) := blk_cell HS0.out.bB rfl
  have y6 : W2.cell? ⟨w.heap.size + 1, 6, none⟩ = some (.int .i64 0) := blk_cell HS0.out.bB rfl
  have y7 : W2.cell? ⟨w.heap.size + 1, 7, none⟩ = some (.int .u32 0) := blk_cell HS0.out.bB rfl
  have y8 : W2.cell? ⟨w.heap.size + 1, 8, none⟩ = some (.int .u32 d0) := blk_cell HS0.out.bB rfl
  have y9 : W2.cell? ⟨w.heap.size + 1, 9, none⟩ = some (.int .u32 d1) := blk_cell HS0.out.bB rfl
  have y10 : W2.cell? ⟨w.heap.size + 1, 10, none⟩ = some (.int .u32 d2) := blk_cell HS0.out.bB rfl
  have y11 : W2.cell? ⟨w.heap.size + 1, 11, none⟩ = some (.int .u32 d3) := blk_cell HS0.out.bB rfl
  have y12 : W2.cell? ⟨w.heap.size + 1, 12, none⟩ = some (.bool true) := blk_cell HS0.out.bB rfl
  have hp := qsPool_any 13
  have he := fun w => eq_msgIn' (13, c, l, t, o, e, w_, v, d0, d1, d2, d3, true) (13, c, l, t, o, e, 0, 0, d0, d1, d2, d3, true) w
  simp only [mv] at he
  have HMK : Hid (maskM (13, c, l, t, o, e, w_, v, d0, d1, d2, d3, true) = (13, c, l, t, o, e, 0, 0, d0, d1, d2, d3, true)) := Hid.in (rfl)
  rw [show poolS 13 = 3 from by decide] at hp
  have hpk : (1 : Int) ≤ 13 ∧ (13 : Int) ≤ 15 := by decide
  rcases hb : eqB (13, c, l, t, o, e, w_, v, d0, d1, d2, d3, true) (13, c, l, t, o, e, 0, 0, d0, d1, d2, d3, true) with _ | _
  · rw [hb] at he
    have HRF := Hid.in (rtB_no (13, c, l, t, o, e, w_, v, d0, d1, d2, d3, true) (fun hr => by have h1 := mask_eq _ hr; rw [HMK.out] at h1; have h2 := (eqB_iff (13, c, l, t, o, e, w_, v, d0, d1, d2, d3, true) (13, c, l, t, o, e, 0, 0, d0, d1, d2, d3, true)).2 h1.symm; rw [hb] at h2; cases h2))
    go_wp2_with fail
    refine (hp _).mono ?_
    rintro r w0 ⟨rfl, rfl⟩
    go_wp2
    go_ret
    exact ⟨by rw [HRF.out]; first | rfl | simp_all, HS0.out.be⟩
  rw [hb] at he
  have HB := Hid.in hb
  clear hb
  by_cases hq : (0 ≤ c ∧ c ≤ 63) ∧ (0 ≤ l ∧ l ≤ 31) ∧ (0 ≤ w_ ∧ w_ ≤ 3) ∧ (0 ≤ o ∧ o ≤ 3) ∧ (0 ≤ e ∧ e ≤ 255) ∧ (0 ≤ t ∧ t ≤ 4)
  rotate_left
  · skip
    have HRF := Hid.in (rtB_no (13, c, l, t, o, e, w_, v, d0, d1, d2, d3, true) (fun hr => hq (by simp only [rtP] at hr; omega)))
    go_wp2_with fail
    refine (hp _).mono ?_
    rintro r w0 ⟨rfl, rfl⟩
    go_wp2
    all_goals (first | (exfalso; omega) | (go_ret; exact ⟨by rw [HRF.out]; first | rfl | simp_all, HS0.out.be⟩))
  obtain ⟨⟨q0, q1⟩, ⟨q2, q3⟩, ⟨q4, q5⟩, ⟨q6, q7⟩, ⟨q8, q9⟩, q10, q11⟩ := hq
  have HR : Hid (((13 : Int) = 13 → ¬ t = 0 ∧ ¬ t = 3) → rtP (13, c, l, t, o, e, w_, v, d0, d1, d2, d3, true)) := Hid.in (fun e2 => rt_of_mask 13 c l t o e w_ v d0 d1 d2 d3 true (by rw [HMK.out]; exact ((eqB_iff _ _).1 HB.out).symm) hpk (by omega) (by omega) (by omega) (by omega) (by omega) (by omega) (fun _ h => by cases h) e2)
  by_cases t0 : t = 0
  · subst t0
    have HRF := Hid.in (rtB_no (13, c, l, 0, o, e, w_, v, d0, d1, d2, d3, true) (by intro hr; simp [rtP] at hr))
    go_wp2_with fail
    refine (hp _).mono ?_
    rintro r w0 ⟨rfl, rfl⟩
    go_wp2
    go_ret
    exact ⟨by rw [HRF.out]; first | rfl | simp_all, HS0.out.be⟩
  by_cases t3 : t = 3
  · subst t3
    have HRF := Hid.in (rtB_no (13, c, l, 3, o, e, w_, v, d0, d1, d2, d3, true) (by intro hr; simp [rtP] at hr))
    go_wp2_with fail
    refine (hp _).mono ?_
    rintro r w0 ⟨rfl, rfl⟩
    go_wp2
    go_ret
    exact ⟨by rw [HRF.out]; first | rfl | simp_all, HS0.out.be⟩
  have f0 : (t != (0 : Int)) = true := by simpa using t0
  have f3 : (t != (3 : Int)) = true := by simpa using t3
  have HRF := Hid.in ((rtB_iff _).2 (HR.out (fun _ => ⟨t0, t3⟩)))
  go_wp2_with fail
  refine (hp _).mono ?_
  rintro r w0 ⟨rfl, rfl⟩
  go_wp2
  go_ret
  exact ⟨by rw [HRF.out]; first | rfl | simp_all, HS0.out.be⟩

end Go.Proofs.YtakomlmbdienpaaDoor

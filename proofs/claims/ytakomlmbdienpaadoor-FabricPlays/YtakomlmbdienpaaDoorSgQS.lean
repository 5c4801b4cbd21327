/- DERIVED of the program: the document's own Right by its contract, a text a kind. Own work. -/
import Derived.Test.YtakomlmbdienpaaDoorSgQR
import Derived.Test.YtakomlmbdienpaaDoorSgQWU
import Derived.Test.YtakomlmbdienpaaDoorSgQWC
import Derived.Test.YtakomlmbdienpaaDoorSgQWD
import Derived.Test.YtakomlmbdienpaaDoorSgQWA
namespace Go.Proofs.YtakomlmbdienpaaDoor
open Go.RowKit Go.Extern.Stop Go.Stop Go.Extern

set_option maxHeartbeats 6400000 in
set_option maxRecDepth 20000 in
theorem qsRight_off13 (w : World) (c l t o e w_ v d0 d1 d2 d3 : Int) (hd : ¬ (d0 = 0 ∧ d1 = 0 ∧ d2 = 0 ∧ d3 = 0)) :
    Calls Tryd.prog 37 #[.agg #[.int .i64 13, .int .i64 c, .int .i64 l, .int .i64 t, .int .i64 o, .int .i64 e, .int .i64 w_, .int .u32 v, .int .u32 d0, .int .u32 d1, .int .u32 d2, .int .u32 d3, .bool false]] w fun r w' => r = .returned (.bool (rtB (13, c, l, t, o, e, w_, v, d0, d1, d2, d3, false))) ∧ Below w.heap.size w w' := by
  rw [rtB_no _ (by intro hr; simp [rtP] at hr; omega)]
  have he := fun w => eq_line' d0 d1 d2 d3 0 0 0 0 w
  rw [show (decide (d0 = 0) && (decide (d1 = 0) && (decide (d2 = 0) && decide (d3 = 0)))) = false from by rw [Bool.eq_false_iff]; intro hz; simp only [Bool.and_eq_true, decide_eq_true_eq] at hz; exact hd hz] at he
  clear hd
  have HS0 : Hid (SM2 w #[.int .i64 13, .int .i64 c, .int .i64 l, .int .i64 t, .int .i64 o, .int .i64 e, .int .i64 w_, .int .u32 v, .int .u32 d0, .int .u32 d1, .int .u32 d2, .int .u32 d3, .bool false] #[.int .i64 13, .int .i64 c, .int .i64 l, .int .i64 0, .int .i64 0, .int .i64 0, .int .i64 0, .int .u32 0, .int .u32 0, .int .u32 0, .int .u32 0, .int .u32 0, .bool false] ((w.alloc (.cells #[.int .i64 13, .int .i64 c, .int .i64 l, .int .i64 t, .int .i64 o, .int .i64 e, .int .i64 w_, .int .u32 v, .int .u32 d0, .int .u32 d1, .int .u32 d2, .int .u32 d3, .bool false] 32)).alloc (.cells #[.int .i64 13, .int .i64 c, .int .i64 l, .int .i64 0, .int .i64 0, .int .i64 0, .int .i64 0, .int .u32 0, .int .u32 0, .int .u32 0, .int .u32 0, .int .u32 0, .bool false] 32))) := Hid.in (SM2.start _ _ _)
  have hA := heap_alloc_new w (.cells #[.int .i64 13, .int .i64 c, .int .i64 l, .int .i64 t, .int .i64 o, .int .i64 e, .int .i64 w_, .int .u32 v, .int .u32 d0, .int .u32 d1, .int .u32 d2, .int .u32 d3, .bool false] 32)
  have x0 : (w.alloc (.cells #[.int .i64 13, .int .i64 c, .int .i64 l, .int .i64 t, .int .i64 o, .int .i64 e, .int .i64 w_, .int .u32 v, .int .u32 d0, .int .u32 d1, .int .u32 d2, .int .u32 d3, .bool false] 32)).cell? ⟨w.heap.size, 0, none⟩ = some (.int .i64 13) := blk_cell hA rfl
  have x1 : (w.alloc (.cells #[.int .i64 13, .int .i64 c, .int .i64 l, .int .i64 t, .int .i64 o, .int .i64 e, .int .i64 w_, .int .u32 v, .int .u32 d0, .int .u32 d1, .int .u32 d2, .int .u32 d3, .bool false] 32)).cell? ⟨w.heap.size, 1, none⟩ = some (.int .i64 c) := blk_cell hA rfl
  have x2 : (w.alloc (.cells #[.int .i64 13, .int .i64 c, .int .i64 l, .int .i64 t, .int .i64 o, .int .i64 e, .int .i64 w_, .int .u32 v, .int .u32 d0, .int .u32 d1, .int .u32 d2, .int .u32 d3, .bool false] 32)).cell? ⟨w.heap.size, 2, none⟩ = some (.int .i64 l) := blk_cell hA rfl
  have x3 : (w.alloc (.cells #[.int .i64 13, .int .i64 c, .int .i64 l, .int .i64 t, .int .i64 o, .int .i64 e, .int .i64 w_, .int .u32 v, .int .u32 d0, .int .u32 d1, .int .u32 d2, .int .u32 d3, .bool false] 32)).cell? ⟨w.heap.size, 3, none⟩ = some (.int .i64 t) := blk_cell hA rfl
  have x4 : (w.alloc (.cells #[.int .i64 13, .int .i64 c, .int .i64 l, .int .i64 t, .int .i64 o, .int .i64 e, .int .i64 w_, .int .u32 v, .int .u32 d0, .int .u32 d1, .int .u32 d2, .int .u32 d3, .bool false] 32)).cell? ⟨w.heap.size, 4, none⟩ = some (.int .i64 o) := blk_cell hA rfl
  have x5 : (w.alloc (.cells #[.int .i64 13, .int .i64 c, .int .i64 l, .int .i64 t, .int .i64 o, .int .i64 e, .int .i64 w_, .int .u32 v, .int .u32 d0, .int .u32 d1, .int .u32 d2, .int .u32 d3, .bool false] 32)).cell? ⟨w.heap.size, 5, none⟩ = some (.int .i64 e) := blk_cell hA rfl
  have x6 : (w.alloc (.cells #[.int .i64 13, .int .i64 c, .int .i64 l, .int .i64 t, .int .i64 o, .int .i64 e, .int .i64 w_, .int .u32 v, .int .u32 d0, .int .u32 d1, .int .u32 d2, .int .u32 d3, .bool false] 32)).cell? ⟨w.heap.size, 6, none⟩ = some (.int .i64 w_) := blk_cell hA rfl
  have x7 : (w.alloc (.cells #[.int .i64 13, .int .i64 c, .int .i64 l, .int .i64 t, .int .i64 o, .int .i64 e, .int .i64 w_, .int .u32 v, .int .u32 d0, .int .u32 d1, .int .u32 d2, .int .u32 d3, .bool false] 32)).cell? ⟨w.heap.size, 7, none⟩ = some (.int .u32 v) := blk_cell hA rfl
  have x8 : (w.alloc (.cells #[.int .i64 13, .int .i64 c, .int .i64 l, .int .i64 t, .int .i64 o, .int .i64 e, .int .i64 w_, .int .u32 v, .int .u32 d0, .int .u32 d1, .int .u32 d2, .int .u32 d3, .bool false] 32)).cell? ⟨w.heap.size, 8, none⟩ = some (.int .u32 d0) := blk_cell hA rfl
  have x9 : (w.alloc (.cells #[.int .i64 13, .int .i64 c, .int .i64 l, .int .i64 t, .int .i64 o, .int .i64 e, .int .i64 w_, .int .u32 v, .int .u32 d0, .int .u32 d1, .int .u32 d2, .int .u32 d3, .bool false] 32)).cell? ⟨w.heap.size, 9, none⟩ = some (.int .u32 d1) := blk_cell hA rfl
  have x10 : (w.alloc (.cells #[.int .i64 13, .int .i64 c, .int .i64 l, .int .i64 t, .int .i64 o, .int .i64 e, .int .i64 w_, .int .u32 v, .int .u32 d0, .int .u32 d1, .int .u32 d2, .int .u32 d3, .bool false] 32)).cell? ⟨w.heap.size, 10, none⟩ = some (.int .u32 d2) := blk_cell hA rfl
  have x11 : (w.alloc (.cells #[.int .i64 13, .int .i64 c, .int .i64 l, .int .i64 t, .int .i64 o, .int .i64 e, .int .i64 w_, .int .u32 v, .int .u32 d0, .int .u32 d1, .int .u32 d2, .int .u32 d3, .bool false] 32)).cell? ⟨w.heap.size, 11, none⟩ = some (.int .u32 d3) := blk_cell hA rfl
  have x12 : (w.alloc (.cells #[.int .i64 13, .int .i64 c, .int .i64 l, .int .i64 t, .int .i64 o, .int .i64 e, .int .i64 w_, .int .u32 v, .int .u32 d0, .int .u32 d1, .int .u32 d2, .int .u32 d3, .bool false] 32)).cell? ⟨w.heap.size, 12, none⟩ = some (.bool false) := blk_cell hA rfl
  clear hA
  go_enter Tryd.func37, Tryd.ntmps37
  go_upto_region 2 with fail
  generalize hX : ((w.alloc (.cells #[.int .i64 13, .int .i64 c, .int .i64 l, .int .i64 t, .int .i64 o, .int .i64 e, .int .i64 w_, .int .u32 v, .int .u32 d0, .int .u32 d1, .int .u32 d2, .int .u32 d3, .bool false] 32)).alloc (.cells #[.int .i64 13, .int .i64 c, .int .i64 l, .int .i64 0, .int .i64 0, .int .i64 0, .int .i64 0, .int .u32 0, .int .u32 0, .int .u32 0, .int .u32 0, .int .u32 0, .bool false] 32)) = W0 at *
  clear hX x0 x1 x2 x3 x4 x5 x6 x7 x8 x9 x10 x11 x12
  have p0 : W0.cell? ⟨w.heap.size, 0, none⟩ = some (.int .i64 13) := blk_cell HS0.out.bA rfl
  go_upto_region 10 with fail
  clear p0
  have HS1 : Hid (SM2 w #[.int .i64 13, .int .i64 c, .int .i64 l, .int .i64 t, .int .i64 o, .int .i64 e, .int .i64 w_, .int .u32 v, .int .u32 d0, .int .u32 d1, .int .u32 d2, .int .u32 d3, .bool false] #[.int .i64 13, .int .i64 c, .int .i64 l, .int .i64 0, .int .i64 0, .int .i64 0, .int .i64 0, .int .u32 0, .int .u32 0, .int .u32 0, .int .u32 0, .int .u32 0, .bool false] W0.drew) := Hid.in (HS0.out.step (Below.refl _ _).drew)
  have HS : Hid (SMA w #[.int .i64 13, .int .i64 c, .int .i64 l, .int .i64 t, .int .i64 o, .int .i64 e, .int .i64 w_, .int .u32 v, .int .u32 d0, .int .u32 d1, .int .u32 d2, .int .u32 d3, .bool false] W0.drew) := Hid.in ⟨HS1.out.bA, HS1.out.be⟩
  have HFA : Hid (∀ W, SMA w #[.int .i64 13, .int .i64 c, .int .i64 l, .int .i64 t, .int .i64 o, .int .i64 e, .int .i64 w_, .int .u32 v, .int .u32 d0, .int .u32 d1, .int .u32 d2, .int .u32 d3, .bool false] W → W.cell? ⟨w.heap.size, 0, none⟩ = some (.int .i64 13) ∧ W.cell? ⟨w.heap.size, 1, none⟩ = some (.int .i64 c) ∧ W.cell? ⟨w.heap.size, 2, none⟩ = some (.int .i64 l) ∧ W.cell? ⟨w.heap.size, 3, none⟩ = some (.int .i64 t) ∧ W.cell? ⟨w.heap.size, 4, none⟩ = some (.int .i64 o) ∧ W.cell? ⟨w.heap.size, 5, none⟩ = some (.int .i64 e) ∧ W.cell? ⟨w.heap.size, 6, none⟩ = some (.int .i64 w_) ∧ W.cell? ⟨w.heap.size, 7, none⟩ = some (.int .u32 v) ∧ W.cell? ⟨w.heap.size, 8, none⟩ = some (.int .u32 d0) ∧ W.cell? ⟨w.heap.size, 9, none⟩ = some (.int .u32 d1) ∧ W.cell? ⟨w.heap.size, 10, none⟩ = some (.int .u32 d2) ∧ W.cell? ⟨w.heap.size, 11, none⟩ = some (.int .u32 d3) ∧ W.cell? ⟨w.heap.size, 12, none⟩ = some (.bool false)) := Hid.in (fun W h => ⟨blk_cell h.bA rfl, blk_cell h.bA rfl, blk_cell h.bA rfl, blk_cell h.bA rfl, blk_cell h.bA rfl, blk_cell h.bA rfl, blk_cell h.bA rfl, blk_cell h.bA rfl, blk_cell h.bA rfl, blk_cell h.bA rfl, blk_cell h.bA rfl, blk_cell h.bA rfl, blk_cell h.bA rfl⟩)
  clear HS0
  refine wp_region_but (SMA w #[.int .i64 13, .int .i64 c, .int .i64 l, .int .i64 t, .int .i64 o, .int .i64 e, .int .i64 w_, .int .u32 v, .int .u32 d0, .int .u32 d1, .int .u32 d2, .int .u32 d3, .bool false]) 7 (by kernel_rfl) ?_
  generalize hX : W0.drew = V0 at *
  clear hX
  refine wpBut_take (i := 0) (v := ?_) rfl (by kernel_rfl) (by kernel_rfl) (by exact fun _ _ _ h => h) HS.out (Or.inl ⟨by rfl, ?_⟩) ?_
  case refine_2 => (intro W _; go_simp; try with_reducible rfl)
  simp only [Act.put, List.setIfInBounds_toArray, List.set_cons_zero, List.set_cons_succ]
  refine wpBut_take (i := 1) (v := ?_) rfl (by kernel_rfl) (by kernel_rfl) (by exact fun _ _ _ h => h) HS.out (Or.inl ⟨by rfl, ?_⟩) ?_
  case refine_2 => (intro W hSw; obtain ⟨s0, s1, s2, s3, s4, s5, s6, s7, s8, s9, s10, s11, s12⟩ := HFA.out W hSw; go_simp; try with_reducible rfl)
  simp only [Act.put, List.setIfInBounds_toArray, List.set_cons_zero, List.set_cons_succ]
  refine wpBut_take (i := 2) (v := ?_) rfl (by kernel_rfl) (by kernel_rfl) (by exact fun _ _ _ h => h) HS.out (Or.inl ⟨by rfl, ?_⟩) ?_
  case refine_2 => (intro W _; go_simp; try with_reducible rfl)
  simp only [Act.put, List.setIfInBounds_toArray, List.set_cons_zero, List.set_cons_succ]
  refine wpBut_take (i := 3) (v := ?_) rfl (by kernel_rfl) (by kernel_rfl) (by exact fun _ _ _ h => h) HS.out (Or.inl ⟨by rfl, ?_⟩) ?_
  case refine_2 => (intro W hSw; obtain ⟨s0, s1, s2, s3, s4, s5, s6, s7, s8, s9, s10, s11, s12⟩ := HFA.out W hSw; go_simp; try with_reducible rfl)
  simp only [Act.put, List.setIfInBounds_toArray, List.set_cons_zero, List.set_cons_succ]
  refine wpBut_take (i := 4) (v := ?_) rfl (by kernel_rfl) (by kernel_rfl) (by exact fun _ _ _ h => h) HS.out (Or.inl ⟨by rfl, ?_⟩) ?_
  case refine_2 => (intro W _; go_simp; try with_reducible rfl)
  simp only [Act.put, List.setIfInBounds_toArray, List.set_cons_zero, List.set_cons_succ]
  have z4 : V0.cell? ⟨w.heap.size + 1, 4, none⟩ = some (.int .i64 0) := blk_cell HS1.out.bB rfl
  have y4 : V0.frozen? ⟨w.heap.size + 1, 4, none⟩ = false := blk_free HS1.out.bB
  have HS2 : Hid (SM2 w #[.int .i64 13, .int .i64 c, .int .i64 l, .int .i64 t, .int .i64 o, .int .i64 e, .int .i64 w_, .int .u32 v, .int .u32 d0, .int .u32 d1, .int .u32 d2, .int .u32 d3, .bool false] #[.int .i64 13, .int .i64 c, .int .i64 l, .int .i64 0, .int .i64 o, .int .i64 0, .int .i64 0, .int .u32 0, .int .u32 0, .int .u32 0, .int .u32 0, .int .u32 0, .bool false] (V0.setCell ⟨w.heap.size + 1, 4, none⟩ (.int .i64 o))) := Hid.in (HS1.out.set 4 (.int .i64 o))
  refine wpBut_one (i := 5) rfl (by kernel_rfl) (fun K HK => ?_)
  go_simp
  generalize hX : (V0.setCell ⟨w.heap.size + 1, 4, none⟩ (.int .i64 o)) = V1 at *
  clear hX HS HS1 z4 y4
  have HS1 := HS2
  clear HS2
  have HS : Hid (SMA w #[.int .i64 13, .int .i64 c, .int .i64 l, .int .i64 t, .int .i64 o, .int .i64 e, .int .i64 w_, .int .u32 v, .int .u32 d0, .int .u32 d1, .int .u32 d2, .int .u32 d3, .bool false] V1) := Hid.in ⟨HS1.out.bA, HS1.out.be⟩
  refine HK.out _ _ (fun _ => HS.out) ?_
  clear HK K
  try simp only [Act.put, List.setIfInBounds_toArray, List.set_cons_zero, List.set_cons_succ]
  refine wpBut_take (i := 6) (v := ?_) rfl (by kernel_rfl) (by kernel_rfl) (by exact fun _ _ _ h => h) HS.out (Or.inl ⟨by rfl, ?_⟩) ?_
  case refine_2 => (intro W _; go_simp; try with_reducible rfl)
  simp only [Act.put, List.setIfInBounds_toArray, List.set_cons_zero, List.set_cons_succ]
  have z5 : V1.cell? ⟨w.heap.size + 1, 5, none⟩ = some (.int .i64 0) := blk_cell HS1.out.bB rfl
  have y5 : V1.frozen? ⟨w.heap.size + 1, 5, none⟩ = false := blk_free HS1.out.bB
  have HS2 : Hid (SM2 w #[.int .i64 13, .int .i64 c, .int .i64 l, .int .i64 t, .int .i64 o, .int .i64 e, .int .i64 w_, .int .u32 v, .int .u32 d0, .int .u32 d1, .int .u32 d2, .int .u32 d3, .bool false] #[.int .i64 13, .int .i64 c, .int .i64 l, .int .i64 0, .int .i64 o, .int .i64 e, .int .i64 0, .int .u32 0, .int .u32 0, .int .u32 0, .int .u32 0, .int .u32 0, .bool false] (V1.setCell ⟨w.heap.size + 1, 5, none⟩ (.int .i64 e))) := Hid.in (HS1.out.set 5 (.int .i64 e))
  refine wpBut_one (i := 7) rfl (by kernel_rfl) (fun K HK => ?_)
  go_simp
  generalize hX : (V1.setCell ⟨w.heap.size + 1, 5, none⟩ (.int .i64 e)) = W1 at *
  clear hX HS HS1 z5 y5
  have HS0 := HS2
  clear HS2 HFA
  refine HK.out _ _ (fun h => absurd rfl h) ?_
  clear HK K
  try simp only [Act.put, List.setIfInBounds_toArray, List.set_cons_zero, List.set_cons_succ]
  refine wpBut_done (by kernel_rfl) ?_ _
  go_upto_region 11 with fail
  have HS1 : Hid (SM2 w #[.int .i64 13, .int .i64 c, .int .i64 l, .int .i64 t, .int .i64 o, .int .i64 e, .int .i64 w_, .int .u32 v, .int .u32 d0, .int .u32 d1, .int .u32 d2, .int .u32 d3, .bool false] #[.int .i64 13, .int .i64 c, .int .i64 l, .int .i64 0, .int .i64 o, .int .i64 e, .int .i64 0, .int .u32 0, .int .u32 0, .int .u32 0, .int .u32 0, .int .u32 0, .bool false] W1.drew) := Hid.in (HS0.out.step (Below.refl _ _).drew)
  have HS : Hid (SMA w #[.int .i64 13, .int .i64 c, .int .i64 l, .int .i64 t, .int .i64 o, .int .i64 e, .int .i64 w_, .int .u32 v, .int .u32 d0, .int .u32 d1, .int .u32 d2, .int .u32 d3, .bool false] W1.drew) := Hid.in ⟨HS1.out.bA, HS1.out.be⟩
  have HFA : Hid (∀ W, SMA w #[.int .i64 13, .int .i64 c, .int .i64 l, .int .i64 t, .int .i64 o, .int .i64 e, .int .i64 w_, .int .u32 v, .int .u32 d0, .int .u32 d1, .int .u32 d2, .int .u32 d3, .bool false] W → W.cell? ⟨w.heap.size, 0, none⟩ = some (.int .i64 13) ∧ W.cell? ⟨w.heap.size, 1, none⟩ = some (.int .i64 c) ∧ W.cell? ⟨w.heap.size, 2, none⟩ = some (.int .i64 l) ∧ W.cell? ⟨w.heap.size, 3, none⟩ = some (.int .i64 t) ∧ W.cell? ⟨w.heap.size, 4, none⟩ = some (.int .i64 o) ∧ W.cell? ⟨w.heap.size, 5, none⟩ = some (.int .i64 e) ∧ W.cell? ⟨w.heap.size, 6, none⟩ = some (.int .i64 w_) ∧ W.cell? ⟨w.heap.size, 7, none⟩ = some (.int .u32 v) ∧ W.cell? ⟨w.heap.size, 8, none⟩ = some (.int .u32 d0) ∧ W.cell? ⟨w.heap.size, 9, none⟩ = some (.int .u32 d1) ∧ W.cell? ⟨w.heap.size, 10, none⟩ = some (.int .u32 d2) ∧ W.cell? ⟨w.heap.size, 11, none⟩ = some (.int .u32 d3) ∧ W.cell? ⟨w.heap.size, 12, none⟩ = some (.bool false)) := Hid.in (fun W h => ⟨blk_cell h.bA rfl, blk_cell h.bA rfl, blk_cell h.bA rfl, blk_cell h.bA rfl, blk_cell h.bA rfl, blk_cell h.bA rfl, blk_cell h.bA rfl, blk_cell h.bA rfl, blk_cell h.bA rfl, blk_cell h.bA rfl, blk_cell h.bA rfl, blk_cell h.bA rfl, blk_cell h.bA rfl⟩)
  clear HS0
  refine wp_region_but (SMA w #[.int .i64 13, .int .i64 c, .int .i64 l, .int .i64 t, .int .i64 o, .int .i64 e, .int .i64 w_, .int .u32 v, .int .u32 d0, .int .u32 d1, .int .u32 d2, .int .u32 d3, .bool false]) 11 (by kernel_rfl) ?_
  generalize hX : W1.drew = V0 at *
  clear hX
  refine wpBut_take (i := 0) (v := ?_) rfl (by kernel_rfl) (by kernel_rfl) (by exact fun _ _ _ h => h) HS.out (Or.inl ⟨by rfl, ?_⟩) ?_
  case refine_2 => (intro W _; go_simp; try with_reducible rfl)
  simp only [Act.put, List.setIfInBounds_toArray, List.set_cons_zero, List.set_cons_succ]
  refine wpBut_take (i := 1) (v := ?_) rfl (by kernel_rfl) (by kernel_rfl) (by exact fun _ _ _ h => h) HS.out (Or.inl ⟨by rfl, ?_⟩) ?_
  case refine_2 => (intro W hSw; obtain ⟨s0, s1, s2, s3, s4, s5, s6, s7, s8, s9, s10, s11, s12⟩ := HFA.out W hSw; go_simp; try with_reducible rfl)
  simp only [Act.put, List.setIfInBounds_toArray, List.set_cons_zero, List.set_cons_succ]
  refine wpBut_take (i := 2) (v := ?_) rfl (by kernel_rfl) (by kernel_rfl) (by exact fun _ _ _ h => h) HS.out (Or.inl ⟨by rfl, ?_⟩) ?_
  case refine_2 => (intro W _; go_simp; try with_reducible rfl)
  simp only [Act.put, List.setIfInBounds_toArray, List.set_cons_zero, List.set_cons_succ]
  refine wpBut_take (i := 3) (v := ?_) rfl (by kernel_rfl) (by kernel_rfl) (by exact fun _ _ _ h => h) HS.out (Or.inl ⟨by rfl, ?_⟩) ?_
  case refine_2 => (intro W hSw; obtain ⟨s0, s1, s2, s3, s4, s5, s6, s7, s8, s9, s10, s11, s12⟩ := HFA.out W hSw; go_simp; try with_reducible rfl)
  simp only [Act.put, List.setIfInBounds_toArray, List.set_cons_zero, List.set_cons_succ]
  refine wpBut_take (i := 4) (v := ?_) rfl (by kernel_rfl) (by kernel_rfl) (by exact fun _ _ _ h => h) HS.out (Or.inl ⟨by rfl, ?_⟩) ?_
  case refine_2 => (intro W _; go_simp; try with_reducible rfl)
  simp only [Act.put, List.setIfInBounds_toArray, List.set_cons_zero, List.set_cons_succ]
  refine wpBut_take (i := 5) (v := ?_) rfl (by kernel_rfl) (by kernel_rfl) (by exact fun _ _ _ h => h) HS.out (Or.inl ⟨by rfl, ?_⟩) ?_
  case refine_2 => (intro W hSw; obtain ⟨s0, s1, s2, s3, s4, s5, s6, s7, s8, s9, s10, s11, s12⟩ := HFA.out W hSw; go_simp; try with_reducible rfl)
  simp only [Act.put, List.setIfInBounds_toArray, List.set_cons_zero, List.set_cons_succ]
  refine wpBut_take (i := 6) (v := ?_) rfl (by kernel_rfl) (by kernel_rfl) (by exact fun _ _ _ h => h) HS.out (Or.inl ⟨by rfl, ?_⟩) ?_
  case refine_2 => (intro W _; go_simp; try with_reducible rfl)
  simp only [Act.put, List.setIfInBounds_toArray, List.set_cons_zero, List.set_cons_succ]
  have z3 : V0.cell? ⟨w.heap.size + 1, 3, none⟩ = some (.int .i64 0) := blk_cell HS1.out.bB rfl
  have y3 : V0.frozen? ⟨w.heap.size + 1, 3, none⟩ = false := blk_free HS1.out.bB
  have HS2 : Hid (SM2 w #[.int .i64 13, .int .i64 c, .int .i64 l, .int .i64 t, .int .i64 o, .int .i64 e, .int .i64 w_, .int .u32 v, .int .u32 d0, .int .u32 d1, .int .u32 d2, .int .u32 d3, .bool false] #[.int .i64 13, .int .i64 c, .int .i64 l, .int .i64 t, .int .i64 o, .int .i64 e, .int .i64 0, .int .u32 0, .int .u32 0, .int .u32 0, .int .u32 0, .int .u32 0, .bool false] (V0.setCell ⟨w.heap.size + 1, 3, none⟩ (.int .i64 t))) := Hid.in (HS1.out.set 3 (.int .i64 t))
  refine wpBut_one (i := 7) rfl (by kernel_rfl) (fun K HK => ?_)
  go_simp
  generalize hX : (V0.setCell ⟨w.heap.size + 1, 3, none⟩ (.int .i64 t)) = V1 at *
  clear hX HS HS1 z3 y3
  have HS1 := HS2
  clear HS2
  have HS : Hid (SMA w #[.int .i64 13, .int .i64 c, .int .i64 l, .int .i64 t, .int .i64 o, .int .i64 e, .int .i64 w_, .int .u32 v, .int .u32 d0, .int .u32 d1, .int .u32 d2, .int .u32 d3, .bool false] V1) := Hid.in ⟨HS1.out.bA, HS1.out.be⟩
  refine HK.out _ _ (fun _ => HS.out) ?_
  clear HK K
  try simp only [Act.put, List.setIfInBounds_toArray, List.set_cons_zero, List.set_cons_succ]
  refine wpBut_take (i := 8) (v := ?_) rfl (by kernel_rfl) (by kernel_rfl) (by exact fun _ _ _ h => h) HS.out (Or.inl ⟨by rfl, ?_⟩) ?_
  case refine_2 => (intro W _; go_simp; try with_reducible rfl)
  simp only [Act.put, List.setIfInBounds_toArray, List.set_cons_zero, List.set_cons_succ]
  have z12 : V1.cell? ⟨w.heap.size + 1, 12, none⟩ = some (.bool false) := blk_cell HS1.out.bB rfl
  have y12 : V1.frozen? ⟨w.heap.size + 1, 12, none⟩ = false := blk_free HS1.out.bB
  have HS2 : Hid (SM2 w #[.int .i64 13, .int .i64 c, .int .i64 l, .int .i64 t, .int .i64 o, .int .i64 e, .int .i64 w_, .int .u32 v, .int .u32 d0, .int .u32 d1, .int .u32 d2, .int .u32 d3, .bool false] #[.int .i64 13, .int .i64 c, .int .i64 l, .int .i64 t, .int .i64 o, .int .i64 e, .int .i64 0, .int .u32 0, .int .u32 0, .int .u32 0, .int .u32 0, .int .u32 0, .bool false] (V1.setCell ⟨w.heap.size + 1, 12, none⟩ (.bool false))) := Hid.in (HS1.out.set 12 (.bool false))
  refine wpBut_one (i := 9) rfl (by kernel_rfl) (fun K HK => ?_)
  go_simp
  generalize hX : (V1.setCell ⟨w.heap.size + 1, 12, none⟩ (.bool false)) = V2 at *
  clear hX HS HS1 z12 y12
  have HS1 := HS2
  clear HS2
  have HS : Hid (SMA w #[.int .i64 13, .int .i64 c, .int .i64 l, .int .i64 t, .int .i64 o, .int .i64 e, .int .i64 w_, .int .u32 v, .int .u32 d0, .int .u32 d1, .int .u32 d2, .int .u32 d3, .bool false] V2) := Hid.in ⟨HS1.out.bA, HS1.out.be⟩
  refine HK.out _ _ (fun _ => HS.out) ?_
  clear HK K
  try simp only [Act.put, List.setIfInBounds_toArray, List.set_cons_zero, List.set_cons_succ]
  refine wpBut_take (i := 10) (v := ?_) rfl (by kernel_rfl) (by kernel_rfl) (by exact fun _ _ _ h => h) HS.out (Or.inl ⟨by rfl, ?_⟩) ?_
  case refine_2 => (intro W _; go_simp; try with_reducible rfl)
  simp only [Act.put, List.setIfInBounds_toArray, List.set_cons_zero, List.set_cons_succ]
  have z8 : V2.cell? ⟨w.heap.size + 1, 8, none⟩ = some (.int .u32 0) := blk_cell HS1.out.bB rfl
  have y8 : V2.frozen? ⟨w.heap.size + 1, 8, none⟩ = false := blk_free HS1.out.bB
  have z9 : V2.cell? ⟨w.heap.size + 1, 9, none⟩ = some (.int .u32 0) := blk_cell HS1.out.bB rfl
  have y9 : V2.frozen? ⟨w.heap.size + 1, 9, none⟩ = false := blk_free HS1.out.bB
  have z10 : V2.cell? ⟨w.heap.size + 1, 10, none⟩ = some (.int .u32 0) := blk_cell HS1.out.bB rfl
  have y10 : V2.frozen? ⟨w.heap.size + 1, 10, none⟩ = false := blk_free HS1.out.bB
  have z11 : V2.cell? ⟨w.heap.size + 1, 11, none⟩ = some (.int .u32 0) := blk_cell HS1.out.bB rfl
  have y11 : V2.frozen? ⟨w.heap.size + 1, 11, none⟩ = false := blk_free HS1.out.bB
  have HS2 : Hid (SM2 w #[.int .i64 13, .int .i64 c, .int .i64 l, .int .i64 t, .int .i64 o, .int .i64 e, .int .i64 w_, .int .u32 v, .int .u32 d0, .int .u32 d1, .int .u32 d2, .int .u32 d3, .bool false] #[.int .i64 13, .int .i64 c, .int .i64 l, .int .i64 t, .int .i64 o, .int .i64 e, .int .i64 0, .int .u32 0, .int .u32 d0, .int .u32 d1, .int .u32 d2, .int .u32 d3, .bool false] ((((V2.setCell ⟨w.heap.size + 1, 8, none⟩ (.int .u32 d0)).setCell ⟨w.heap.size + 1, 9, none⟩ (.int .u32 d1)).setCell ⟨w.heap.size + 1, 10, none⟩ (.int .u32 d2)).setCell ⟨w.heap.size + 1, 11, none⟩ (.int .u32 d3))) := Hid.in ((((HS1.out.set 8 (.int .u32 d0)).set 9 (.int .u32 d1)).set 10 (.int .u32 d2)).set 11 (.int .u32 d3))
  refine wpBut_one (i := 11) rfl (by kernel_rfl) (fun K HK => ?_)
  go_simp
  generalize hX : ((((V2.setCell ⟨w.heap.size + 1, 8, none⟩ (.int .u32 d0)).setCell ⟨w.heap.size + 1, 9, none⟩ (.int .u32 d1)).setCell ⟨w.heap.size + 1, 10, none⟩ (.int .u32 d2)).setCell ⟨w.heap.size + 1, 11, none⟩ (.int .u32 d3)) = W2 at *
  clear hX HS HS1 z8 z9 z10 z11 y8 y9 y10 y11
  have HS0 := HS2
  clear HS2 HFA
  refine HK.out _ _ (fun h => absurd rfl h) ?_
  clear HK K
  try simp only [Act.put, List.setIfInBounds_toArray, List.set_cons_zero, List.set_cons_succ]
  refine wpBut_done (by kernel_rfl) ?_ _
  have x12 : W2.cell? ⟨w.heap.size, 12, none⟩ = some (.bool false) := blk_cell HS0.out.bA rfl
  have x8 : W2.cell? ⟨w.heap.size, 8, none⟩ = some (.int .u32 d0) := blk_cell HS0.out.bA rfl
  have x9 : W2.cell? ⟨w.heap.size, 9, none⟩ = some (.int .u32 d1) := blk_cell HS0.out.bA rfl
  have x10 : W2.cell? ⟨w.heap.size, 10, none⟩ = some (.int .u32 d2) := blk_cell HS0.out.bA rfl
  have x11 : W2.cell? ⟨w.heap.size, 11, none⟩ = some (.int .u32 d3) := blk_cell HS0.out.bA rfl
  go_wp2
  go_ret
  exact ⟨rfl, HS0.out.be⟩

set_option maxHeartbeats 6400000 in
set_option maxRecDepth 20000 in
theorem qsRight_off11 (w : World) (c l t o e w_ v d0 d1 d2 d3 : Int) (hd : ¬ (d0 = 0 ∧ d1 = 0 ∧ d2 = 0 ∧ d3 = 0)) :
    Calls Tryd.prog 37 #[.agg #[.int .i64 11, .int .i64 c, .int .i64 l, .int .i64 t, .int .i64 o, .int .i64 e, .int .i64 w_, .int .u32 v, .int .u32 d0, .int .u32 d1, .int .u32 d2, .int .u32 d3, .bool false]] w fun r w' => r = .returned (.bool (rtB (11, c, l, t, o, e, w_, v, d0, d1, d2, d3, false))) ∧ Below w.heap.size w w' := by
  rw [rtB_no _ (by intro hr; simp [rtP] at hr; omega)]
  have he := fun w => eq_line' d0 d1 d2 d3 0 0 0 0 w
  rw [show (decide (d0 = 0) && (decide (d1 = 0) && (decide (d2 = 0) && decide (d3 = 0)))) = false from by rw [Bool.eq_false_iff]; intro hz; simp only [Bool.and_eq_true, decide_eq_true_eq] at hz; exact hd hz] at he
  clear hd
  have HS0 : Hid (SM2 w #[.int .i64 11, .int .i64 c, .int .i64 l, .int .i64 t, .int .i64 o, .int .i64 e, .int .i64 w_, .int .u32 v, .int .u32 d0, .int .u32 d1, .int .u32 d2, .int .u32 d3, .bool false] #[.int .i64 11, .int .i64 c, .int .i64 l, .int .i64 0, .int .i64 0, .int .i64 0, .int .i64 0, .int .u32 0, .int .u32 0, .int .u32 0, .int .u32 0, .int .u32 0, .bool false] ((w.alloc (.cells #[.int .i64 11, .int .i64 c, .int .i64 l, .int .i64 t, .int .i64 o, .int .i64 e, .int .i64 w_, .int .u32 v, .int .u32 d0, .int .u32 d1, .int .u32 d2, .int .u32 d3, .bool false] 32)).alloc (.cells #[.int .i64 11, .int .i64 c, .int .i64 l, .int .i64 0, .int .i64 0, .int .i64 0, .int .i64 0, .int .u32 0, .int .u32 0, .int .u32 0, .int .u32 0, .int .u32 0, .bool false] 32))) := Hid.in (SM2.start _ _ _)
  have hA := heap_alloc_new w (.cells #[.int .i64 11, .int .i64 c, .int .i64 l, .int .i64 t, .int .i64 o, .int .i64 e, .int .i64 w_, .int .u32 v, .int .u32 d0, .int .u32 d1, .int .u32 d2, .int .u32 d3, .bool false] 32)
  have x0 : (w.alloc (.cells #[.int .i64 11, .int .i64 c, .int .i64 l, .int .i64 t, .int .i64 o, .int .i64 e, .int .i64 w_, .int .u32 v, .int .u32 d0, .int .u32 d1, .int .u32 d2, .int .u32 d3, .bool false] 32)).cell? ⟨w.heap.size, 0, none⟩ = some (.int .i64 11) := blk_cell hA rfl
  have x1 : (w.alloc (.cells #[.int .i64 11, .int .i64 c, .int .i64 l, .int .i64 t, .int .i64 o, .int .i64 e, .int .i64 w_, .int .u32 v, .int .u32 d0, .int .u32 d1, .int .u32 d2, .int .u32 d3, .bool false] 32)).cell? ⟨w.heap.size, 1, none⟩ = some (.int .i64 c) := blk_cell hA rfl
  have x2 : (w.alloc (.cells #[.int .i64 11, .int .i64 c, .int .i64 l, .int .i64 t, .int .i64 o, .int .i64 e, .int .i64 w_, .int .u32 v, .int .u32 d0, .int .u32 d1, .int .u32 d2, .int .u32 d3, .bool false] 32)).cell? ⟨w.heap.size, 2, none⟩ = some (.int .i64 l) := blk_cell hA rfl
  have x3 : (w.alloc (.cells #[.int .i64 11, .int .i64 c, .int .i64 l, .int .i64 t, .int .i64 o, .int .i64 e, .int .i64 w_, .int .u32 v, .int .u32 d0, .int .u32 d1, .int .u32 d2, .int .u32 d3, .bool false] 32)).cell? ⟨w.heap.size, 3, none⟩ = some (.int .i64 t) := blk_cell hA rfl
  have x4 : (w.alloc (.cells #[.int .i64 11, .int .i64 c, .int .i64 l, .int .i64 t, .int .i64 o, .int .i64 e, .int .i64 w_, .int .u32 v, .int .u32 d0, .int .u32 d1, .int .u32 d2, .int .u32 d3, .bool false] 32)).cell? ⟨w.heap.size, 4, none⟩ = some (.int .i64 o) := blk_cell hA rfl
  have x5 : (w.alloc (.cells #[.int .i64 11, .int .i64 c, .int .i64 l, .int .i64 t, .int .i64 o, .int .i64 e, .int .i64 w_, .int .u32 v, .int .u32 d0, .int .u32 d1, .int .u32 d2, .int .u32 d3, .bool false] 32)).cell? ⟨w.heap.size, 5, none⟩ = some (.int .i64 e) := blk_cell hA rfl
  have x6 : (w.alloc (.cells #[.int .i64 11, .int .i64 c, .int .i64 l, .int .i64 t, .int .i64 o, .int .i64 e, .int .i64 w_, .int .u32 v, .int .u32 d0, .int .u32 d1, .int .u32 d2, .int .u32 d3, .bool false] 32)).cell? ⟨w.heap.size, 6, none⟩ = some (.int .i64 w_) := blk_cell hA rfl
  have x7 : (w.alloc (.cells #[.int .i64 11, .int .i64 c, .int .i64 l, .int .i64 t, .int .i64 o, .int .i64 e, .int .i64 w_, .int .u32 v, .int .u32 d0, .int .u32 d1, .int .u32 d2, .int .u32 d3, .bool false] 32)).cell? ⟨w.heap.size, 7, none⟩ = some (.int .u32 v) := blk_cell hA rfl
  have x8 : (w.alloc (.cells #[.int .i64 11, .int .i64 c, .int .i64 l, .int .i64 t, .int .i64 o, .int .i64 e, .int .i64 w_, .int .u32 v, .int .u32 d0, .int .u32 d1, .int .u32 d2, .int .u32 d3, .bool false] 32)).cell? ⟨w.heap.size, 8, none⟩ = some (.int .u32 d0) := blk_cell hA rfl
  have x9 : (w.alloc (.cells #[.int .i64 11, .int .i64 c, .int .i64 l, .int .i64 t, .int .i64 o, .int .i64 e, .int .i64 w_, .int .u32 v, .int .u32 d0, .int .u32 d1, .int .u32 d2, .int .u32 d3, .bool false] 32)).cell? ⟨w.heap.size, 9, none⟩ = some (.int .u32 d1) := blk_cell hA rfl
  have x10 : (w.alloc (.cells #[.int .i64 11, .int .i64 c, .int .i64 l, .int .i64 t, .int .i64 o, .int .i64 e, .int .i64 w_, .int .u32 v, .int .u32 d0, .int .u32 d1, .int .u32 d2, .int .u32 d3, .bool false] 32)).cell? ⟨w.heap.size, 10, none⟩ = some (.int .u32 d2) := blk_cell hA rfl
  have x11 : (w.alloc (.cells #[.int .i64 11, .int .i64 c, .int .i64 l, .int .i64 t, .int .i64 o, .int .i64 e, .int .i64 w_, .int .u32 v, .int .u32 d0, .int .u32 d1, .int .u32 d2, .int .u32 d3, .bool false] 32)).cell? ⟨w.heap.size, 11, none⟩ = some (.int .u32 d3) := blk_cell hA rfl
  have x12 : (w.alloc (.cells #[.int .i64 11, .int .i64 c, .int .i64 l, .int .i64 t, .int .i64 o, .int .i64 e, .int .i64 w_, .int .u32 v, .int .u32 d0, .int .u32 d1, .int .u32 d2, .int .u32 d3, .bool false] 32)).cell? ⟨w.heap.size, 12, none⟩ = some (.bool false) := blk_cell hA rfl
  clear hA
  go_enter Tryd.func37, Tryd.ntmps37
  go_upto_region 2 with fail
  generalize hX : ((w.alloc (.cells #[.int .i64 11, .int .i64 c, .int .i64 l, .int .i64 t, .int .i64 o, .int .i64 e, .int .i64 w_, .int .u32 v, .int .u32 d0, .int .u32 d1, .int .u32 d2, .int .u32 d3, .bool false] 32)).alloc (.cells #[.int .i64 11, .int .i64 c, .int .i64 l, .int .i64 0, .int .i64 0, .int .i64 0, .int .i64 0, .int .u32 0, .int .u32 0, .int .u32 0, .int .u32 0, .int .u32 0, .bool false] 32)) = W0 at *
  clear hX x0 x1 x2 x3 x4 x5 x6 x7 x8 x9 x10 x11 x12
  have p0 : W0.cell? ⟨w.heap.size, 0, none⟩ = some (.int .i64 11) := blk_cell HS0.out.bA rfl
  go_upto_region 11 with fail
  clear p0
  have HS1 : Hid (SM2 w #[.int .i64 11, .int .i64 c, .int .i64 l, .int .i64 t, .int .i64 o, .int .i64 e, .int .i64 w_, .int .u32 v, .int .u32 d0, .int .u32 d1, .int .u32 d2, .int .u32 d3, .bool false] #[.int .i64 11, .int .i64 c, .int .i64 l, .int .i64 0, .int .i64 0, .int .i64 0, .int .i64 0, .int .u32 0, .int .u32 0, .int .u32 0, .int .u32 0, .int .u32 0, .bool false] W0.drew) := Hid.in (HS0.out.step (Below.refl _ _).drew)
  have HS : Hid (SMA w #[.int .i64 11, .int .i64 c, .int .i64 l, .int .i64 t, .int .i64 o, .int .i64 e, .int .i64 w_, .int .u32 v, .int .u32 d0, .int .u32 d1, .int .u32 d2, .int .u32 d3, .bool false] W0.drew) := Hid.in ⟨HS1.out.bA, HS1.out.be⟩
  have HFA : Hid (∀ W, SMA w #[.int .i64 11, .int .i64 c, .int .i64 l, .int .i64 t, .int .i64 o, .int .i64 e, .int .i64 w_, .int .u32 v, .int .u32 d0, .int .u32 d1, .int .u32 d2, .int .u32 d3, .bool false] W → W.cell? ⟨w.heap.size, 0, none⟩ = some (.int .i64 11) ∧ W.cell? ⟨w.heap.size, 1, none⟩ = some (.int .i64 c) ∧ W.cell? ⟨w.heap.size, 2, none⟩ = some (.int .i64 l) ∧ W.cell? ⟨w.heap.size, 3, none⟩ = some (.int .i64 t) ∧ W.cell? ⟨w.heap.size, 4, none⟩ = some (.int .i64 o) ∧ W.cell? ⟨w.heap.size, 5, none⟩ = some (.int .i64 e) ∧ W.cell? ⟨w.heap.size, 6, none⟩ = some (.int .i64 w_) ∧ W.cell? ⟨w.heap.size, 7, none⟩ = some (.int .u32 v) ∧ W.cell? ⟨w.heap.size, 8, none⟩ = some (.int .u32 d0) ∧ W.cell? ⟨w.heap.size, 9, none⟩ = some (.int .u32 d1) ∧ W.cell? ⟨w.heap.size, 10, none⟩ = some (.int .u32 d2) ∧ W.cell? ⟨w.heap.size, 11, none⟩ = some (.int .u32 d3) ∧ W.cell? ⟨w.heap.size, 12, none⟩ = some (.bool false)) := Hid.in (fun W h => ⟨blk_cell h.bA rfl, blk_cell h.bA rfl, blk_cell h.bA rfl, blk_cell h.bA rfl, blk_cell h.bA rfl, blk_cell h.bA rfl, blk_cell h.bA rfl, blk_cell h.bA rfl, blk_cell h.bA rfl, blk_cell h.bA rfl, blk_cell h.bA rfl, blk_cell h.bA rfl, blk_cell h.bA rfl⟩)
  clear HS0
  refine wp_region_but (SMA w #[.int .i64 11, .int .i64 c, .int .i64 l, .int .i64 t, .int .i64 o, .int .i64 e, .int .i64 w_, .int .u32 v, .int .u32 d0, .int .u32 d1, .int .u32 d2, .int .u32 d3, .bool false]) 11 (by kernel_rfl) ?_
  generalize hX : W0.drew = V0 at *
  clear hX
  refine wpBut_take (i := 0) (v := ?_) rfl (by kernel_rfl) (by kernel_rfl) (by exact fun _ _ _ h => h) HS.out (Or.inl ⟨by rfl, ?_⟩) ?_
  case refine_2 => (intro W _; go_simp; try with_reducible rfl)
  simp only [Act.put, List.setIfInBounds_toArray, List.set_cons_zero, List.set_cons_succ]
  refine wpBut_take (i := 1) (v := ?_) rfl (by kernel_rfl) (by kernel_rfl) (by exact fun _ _ _ h => h) HS.out (Or.inl ⟨by rfl, ?_⟩) ?_
  case refine_2 => (intro W hSw; obtain ⟨s0, s1, s2, s3, s4, s5, s6, s7, s8, s9, s10, s11, s12⟩ := HFA.out W hSw; go_simp; try with_reducible rfl)
  simp only [Act.put, List.setIfInBounds_toArray, List.set_cons_zero, List.set_cons_succ]
  refine wpBut_take (i := 2) (v := ?_) rfl (by kernel_rfl) (by kernel_rfl) (by exact fun _ _ _ h => h) HS.out (Or.inl ⟨by rfl, ?_⟩) ?_
  case refine_2 => (intro W _; go_simp; try with_reducible rfl)
  simp only [Act.put, List.setIfInBounds_toArray, List.set_cons_zero, List.set_cons_succ]
  refine wpBut_take (i := 3) (v := ?_) rfl (by kernel_rfl) (by kernel_rfl) (by exact fun _ _ _ h => h) HS.out (Or.inl ⟨by rfl, ?_⟩) ?_
  case refine_2 => (intro W hSw; obtain ⟨s0, s1, s2, s3, s4, s5, s6, s7, s8, s9, s10, s11, s12⟩ := HFA.out W hSw; go_simp; try with_reducible rfl)
  simp only [Act.put, List.setIfInBounds_toArray, List.set_cons_zero, List.set_cons_succ]
  refine wpBut_take (i := 4) (v := ?_) rfl (by kernel_rfl) (by kernel_rfl) (by exact fun _ _ _ h => h) HS.out (Or.inl ⟨by rfl, ?_⟩) ?_
  case refine_2 => (intro W _; go_simp; try with_reducible rfl)
  simp only [Act.put, List.setIfInBounds_toArray, List.set_cons_zero, List.set_cons_succ]
  refine wpBut_take (i := 5) (v := ?_) rfl (by kernel_rfl) (by kernel_rfl) (by exact fun _ _ _ h => h) HS.out (Or.inl ⟨by rfl, ?_⟩) ?_
  case refine_2 => (intro W hSw; obtain ⟨s0, s1, s2, s3, s4, s5, s6, s7, s8, s9, s10, s11, s12⟩ := HFA.out W hSw; go_simp; try with_reducible rfl)
  simp only [Act.put, List.setIfInBounds_toArray, List.set_cons_zero, List.set_cons_succ]
  refine wpBut_take (i := 6) (v := ?_) rfl (by kernel_rfl) (by kernel_rfl) (by exact fun _ _ _ h => h) HS.out (Or.inl ⟨by rfl, ?_⟩) ?_
  case refine_2 => (intro W _; go_simp; try with_reducible rfl)
  simp only [Act.put, List.setIfInBounds_toArray, List.set_cons_zero, List.set_cons_succ]
  have z3 : V0.cell? ⟨w.heap.size + 1, 3, none⟩ = some (.int .i64 0) := blk_cell HS1.out.bB rfl
  have y3 : V0.frozen? ⟨w.heap.size + 1, 3, none⟩ = false := blk_free HS1.out.bB
  have HS2 : Hid (SM2 w #[.int .i64 11, .int .i64 c, .int .i64 l, .int .i64 t, .int .i64 o, .int .i64 e, .int .i64 w_, .int .u32 v, .int .u32 d0, .int .u32 d1, .int .u32 d2, .int .u32 d3, .bool false] #[.int .i64 11, .int .i64 c, .int .i64 l, .int .i64 t, .int .i64 0, .int .i64 0, .int .i64 0, .int .u32 0, .int .u32 0, .int .u32 0, .int .u32 0, .int .u32 0, .bool false] (V0.setCell ⟨w.heap.size + 1, 3, none⟩ (.int .i64 t))) := Hid.in (HS1.out.set 3 (.int .i64 t))
  refine wpBut_one (i := 7) rfl (by kernel_rfl) (fun K HK => ?_)
  go_simp
  generalize hX : (V0.setCell ⟨w.heap.size + 1, 3, none⟩ (.int .i64 t)) = V1 at *
  clear hX HS HS1 z3 y3
  have HS1 := HS2
  clear HS2
  have HS : Hid (SMA w #[.int .i64 11, .int .i64 c, .int .i64 l, .int .i64 t, .int .i64 o, .int .i64 e, .int .i64 w_, .int .u32 v, .int .u32 d0, .int .u32 d1, .int .u32 d2, .int .u32 d3, .bool false] V1) := Hid.in ⟨HS1.out.bA, HS1.out.be⟩
  refine HK.out _ _ (fun _ => HS.out) ?_
  clear HK K
  try simp only [Act.put, List.setIfInBounds_toArray, List.set_cons_zero, List.set_cons_succ]
  refine wpBut_take (i := 8) (v := ?_) rfl (by kernel_rfl) (by kernel_rfl) (by exact fun _ _ _ h => h) HS.out (Or.inl ⟨by rfl, ?_⟩) ?_
  case refine_2 => (intro W _; go_simp; try with_reducible rfl)
  simp only [Act.put, List.setIfInBounds_toArray, List.set_cons_zero, List.set_cons_succ]
  have z12 : V1.cell? ⟨w.heap.size + 1, 12, none⟩ = some (.bool false) := blk_cell HS1.out.bB rfl
  have y12 : V1.frozen? ⟨w.heap.size + 1, 12, none⟩ = false := blk_free HS1.out.bB
  have HS2 : Hid (SM2 w #[.int .i64 11, .int .i64 c, .int .i64 l, .int .i64 t, .int .i64 o, .int .i64 e, .int .i64 w_, .int .u32 v, .int .u32 d0, .int .u32 d1, .int .u32 d2, .int .u32 d3, .bool false] #[.int .i64 11, .int .i64 c, .int .i64 l, .int .i64 t, .int .i64 0, .int .i64 0, .int .i64 0, .int .u32 0, .int .u32 0, .int .u32 0, .int .u32 0, .int .u32 0, .bool false] (V1.setCell ⟨w.heap.size + 1, 12, none⟩ (.bool false))) := Hid.in (HS1.out.set 12 (.bool false))
  refine wpBut_one (i := 9) rfl (by kernel_rfl) (fun K HK => ?_)
  go_simp
  generalize hX : (V1.setCell ⟨w.heap.size + 1, 12, none⟩ (.bool false)) = V2 at *
  clear hX HS HS1 z12 y12
  have HS1 := HS2
  clear HS2
  have HS : Hid (SMA w #[.int .i64 11, .int .i64 c, .int .i64 l, .int .i64 t, .int .i64 o, .int .i64 e, .int .i64 w_, .int .u32 v, .int .u32 d0, .int .u32 d1, .int .u32 d2, .int .u32 d3, .bool false] V2) := Hid.in ⟨HS1.out.bA, HS1.out.be⟩
  refine HK.out _ _ (fun _ => HS.out) ?_
  clear HK K
  try simp only [Act.put, List.setIfInBounds_toArray, List.set_cons_zero, List.set_cons_succ]
  refine wpBut_take (i := 10) (v := ?_) rfl (by kernel_rfl) (by kernel_rfl) (by exact fun _ _ _ h => h) HS.out (Or.inl ⟨by rfl, ?_⟩) ?_
  case refine_2 => (intro W _; go_simp; try with_reducible rfl)
  simp only [Act.put, List.setIfInBounds_toArray, List.set_cons_zero, List.set_cons_succ]
  have z8 : V2.cell? ⟨w.heap.size + 1, 8, none⟩ = some (.int .u32 0) := blk_cell HS1.out.bB rfl
  have y8 : V2.frozen? ⟨w.heap.size + 1, 8, none⟩ = false := blk_free HS1.out.bB
  have z9 : V2.cell? ⟨w.heap.size + 1, 9, none⟩ = some (.int .u32 0) := blk_cell HS1.out.bB rfl
  have y9 : V2.frozen? ⟨w.heap.size + 1, 9, none⟩ = false := blk_free HS1.out.bB
  have z10 : V2.cell? ⟨w.heap.size + 1, 10, none⟩ = some (.int .u32 0) := blk_cell HS1.out.bB rfl
  have y10 : V2.frozen? ⟨w.heap.size + 1, 10, none⟩ = false := blk_free HS1.out.bB
  have z11 : V2.cell? ⟨w.heap.size + 1, 11, none⟩ = some (.int .u32 0) := blk_cell HS1.out.bB rfl
  have y11 : V2.frozen? ⟨w.heap.size + 1, 11, none⟩ = false := blk_free HS1.out.bB
  have HS2 : Hid (SM2 w #[.int .i64 11, .int .i64 c, .int .i64 l, .int .i64 t, .int .i64 o, .int .i64 e, .int .i64 w_, .int .u32 v, .int .u32 d0, .int .u32 d1, .int .u32 d2, .int .u32 d3, .bool false] #[.int .i64 11, .int .i64 c, .int .i64 l, .int .i64 t, .int .i64 0, .int .i64 0, .int .i64 0, .int .u32 0, .int .u32 d0, .int .u32 d1, .int .u32 d2, .int .u32 d3, .bool false] ((((V2.setCell ⟨w.heap.size + 1, 8, none⟩ (.int .u32 d0)).setCell ⟨w.heap.size + 1, 9, none⟩ (.int .u32 d1)).setCell ⟨w.heap.size + 1, 10, none⟩ (.int .u32 d2)).setCell ⟨w.heap.size + 1, 11, none⟩ (.int .u32 d3))) := Hid.in ((((HS1.out.set 8 (.int .u32 d0)).set 9 (.int .u32 d1)).set 10 (.int .u32 d2)).set 11 (.int .u32 d3))
  refine wpBut_one (i := 11) rfl (by kernel_rfl) (fun K HK => ?_)
  go_simp
  generalize hX : ((((V2.setCell ⟨w.heap.size + 1, 8, none⟩ (.int .u32 d0)).setCell ⟨w.heap.size + 1, 9, none⟩ (.int .u32 d1)).setCell ⟨w.heap.size + 1, 10, none⟩ (.int .u32 d2)).setCell ⟨w.heap.size + 1, 11, none⟩ (.int .u32 d3)) = W2 at *
  clear hX HS HS1 z8 z9 z10 z11 y8 y9 y10 y11
  have HS0 := HS2
  clear HS2 HFA
  refine HK.out _ _ (fun h => absurd rfl h) ?_
  clear HK K
  try simp only [Act.put, List.setIfInBounds_toArray, List.set_cons_zero, List.set_cons_succ]
  refine wpBut_done (by kernel_rfl) ?_ _
  have x12 : W2.cell? ⟨w.heap.size, 12, none⟩ = some (.bool false) := blk_cell HS0.out.bA rfl
  have x8 : W2.cell? ⟨w.heap.size, 8, none⟩ = some (.int .u32 d0) := blk_cell HS0.out.bA rfl
  have x9 : W2.cell? ⟨w.heap.size, 9, none⟩ = some (.int .u32 d1) := blk_cell HS0.out.bA rfl
  have x10 : W2.cell? ⟨w.heap.size, 10, none⟩ = some (.int .u32 d2) := blk_cell HS0.out.bA rfl
  have x11 : W2.cell? ⟨w.heap.size, 11, none⟩ = some (.int .u32 d3) := blk_cell HS0.out.bA rfl
  go_wp2
  go_ret
  exact ⟨rfl, HS0.out.be⟩

end Go.Proofs.YtakomlmbdienpaaDoor

namespace Go.Proofs.YtakomlmbdienpaaDoor
open Go.RowKit Go.Extern.Stop Go.Stop Go.Extern

theorem qsRight_any (m : M13) (w : World) (_ : M64 m) : Calls Tryd.prog 37 #[.agg (mv m)] w fun r w' => r = .returned (.bool (rtB m)) ∧ Below w.heap.size w w' := by
  obtain ⟨k, c, l, t, o, e, w_, v, d0, d1, d2, d3, h⟩ := m
  by_cases g3 : k = 3
  · subst g3; exact qsRight_U3 w c l t o e w_ v d0 d1 d2 d3 h
  by_cases g8 : k = 8
  · subst g8; exact qsRight_U8 w c l t o e w_ v d0 d1 d2 d3 h
  by_cases g14 : k = 14
  · subst g14; exact qsRight_U14 w c l t o e w_ v d0 d1 d2 d3 h
  by_cases g9 : k = 9
  · subst g9; exact qsRight_C w c l t o e w_ v d0 d1 d2 d3 h
  by_cases g5 : k = 5
  · subst g5; exact qsRight_S w c l t o e w_ v d0 d1 d2 d3 h
  by_cases g13 : k = 13
  · subst g13
    cases h
    · by_cases hd : d0 = 0 ∧ d1 = 0 ∧ d2 = 0 ∧ d3 = 0
      · obtain ⟨rfl, rfl, rfl, rfl⟩ := hd
        exact qsRight_D0 w c l t o e w_ v
      · exact qsRight_off13 w c l t o e w_ v d0 d1 d2 d3 hd
    · exact qsRight_D1 w c l t o e w_ v d0 d1 d2 d3
  by_cases g11 : k = 11
  · subst g11
    cases h
    · by_cases hd : d0 = 0 ∧ d1 = 0 ∧ d2 = 0 ∧ d3 = 0
      · obtain ⟨rfl, rfl, rfl, rfl⟩ := hd
        exact qsRight_A0 w c l t o e w_ v
      · exact qsRight_off11 w c l t o e w_ v d0 d1 d2 d3 hd
    · exact qsRight_A1 w c l t o e w_ v d0 d1 d2 d3
  exact qsRight_B w k c l t o e w_ v d0 d1 d2 d3 h g3 g8 g14 g9 g5 g13 g11
end Go.Proofs.YtakomlmbdienpaaDoor

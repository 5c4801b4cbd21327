/- DERIVED of the program: the document's own Right by its contract, a text a kind. Own work. -/
import Derived.Test.YtakomlmbdienpaaDoorSgQR
namespace Go.Proofs.YtakomlmbdienpaaDoor
open Go.RowKit Go.Extern.Stop Go.Stop Go.Extern

set_option linter.unusedVariables false in
set_option maxHeartbeats 12800000 in
set_option maxRecDepth 20000 in
theorem qsRight_C (w : World) (c l t o e w_ v d0 d1 d2 d3 : Int) (h : Bool) :
    Calls Tryd.prog 37 #[.agg #[.int .i64 9, .int .i64 c, .int .i64 l, .int .i64 t, .int .i64 o, .int .i64 e, .int .i64 w_, .int .u32 v, .int .u32 d0, .int .u32 d1, .int .u32 d2, .int .u32 d3, .bool h]] w fun r w' => r = .returned (.bool (rtB (9, c, l, t, o, e, w_, v, d0, d1, d2, d3, h))) ∧ Below w.heap.size w w' := by
  have HS0 : Hid (SM2 w #[.int .i64 9, .int .i64 c, .int .i64 l, .int .i64 t, .int .i64 o, .int .i64 e, .int .i64 w_, .int .u32 v, .int .u32 d0, .int .u32 d1, .int .u32 d2, .int .u32 d3, .bool h] #[.int .i64 9, .int .i64 c, .int .i64 l, .int .i64 0, .int .i64 0, .int .i64 0, .int .i64 0, .int .u32 0, .int .u32 0, .int .u32 0, .int .u32 0, .int .u32 0, .bool false] ((w.alloc (.cells #[.int .i64 9, .int .i64 c, .int .i64 l, .int .i64 t, .int .i64 o, .int .i64 e, .int .i64 w_, .int .u32 v, .int .u32 d0, .int .u32 d1, .int .u32 d2, .int .u32 d3, .bool h] 32)).alloc (.cells #[.int .i64 9, .int .i64 c, .int .i64 l, .int .i64 0, .int .i64 0, .int .i64 0, .int .i64 0, .int .u32 0, .int .u32 0, .int .u32 0, .int .u32 0, .int .u32 0, .bool false] 32))) := Hid.in (SM2.start _ _ _)
  have hA := heap_alloc_new w (.cells #[.int .i64 9, .int .i64 c, .int .i64 l, .int .i64 t, .int .i64 o, .int .i64 e, .int .i64 w_, .int .u32 v, .int .u32 d0, .int .u32 d1, .int .u32 d2, .int .u32 d3, .bool h] 32)
  have x0 : (w.alloc (.cells #[.int .i64 9, .int .i64 c, .int .i64 l, .int .i64 t, .int .i64 o, .int .i64 e, .int .i64 w_, .int .u32 v, .int .u32 d0, .int .u32 d1, .int .u32 d2, .int .u32 d3, .bool h] 32)).cell? ⟨w.heap.size, 0, none⟩ = some (.int .i64 9) := blk_cell hA rfl
  have x1 : (w.alloc (.cells #[.int .i64 9, .int .i64 c, .int .i64 l, .int .i64 t, .int .i64 o, .int .i64 e, .int .i64 w_, .int .u32 v, .int .u32 d0, .int .u32 d1, .int .u32 d2, .int .u32 d3, .bool h] 32)).cell? ⟨w.heap.size, 1, none⟩ = some (.int .i64 c) := blk_cell hA rfl
  have x2 : (w.alloc (.cells #[.int .i64 9, .int .i64 c, .int .i64 l, .int .i64 t, .int .i64 o, .int .i64 e, .int .i64 w_, .int .u32 v, .int .u32 d0, .int .u32 d1, .int .u32 d2, .int .u32 d3, .bool h] 32)).cell? ⟨w.heap.size, 2, none⟩ = some (.int .i64 l) := blk_cell hA rfl
  have x3 : (w.alloc (.cells #[.int .i64 9, .int .i64 c, .int .i64 l, .int .i64 t, .int .i64 o, .int .i64 e, .int .i64 w_, .int .u32 v, .int .u32 d0, .int .u32 d1, .int .u32 d2, .int .u32 d3, .bool h] 32)).cell? ⟨w.heap.size, 3, none⟩ = some (.int .i64 t) := blk_cell hA rfl
  have x4 : (w.alloc (.cells #[.int .i64 9, .int .i64 c, .int .i64 l, .int .i64 t, .int .i64 o, .int .i64 e, .int .i64 w_, .int .u32 v, .int .u32 d0, .int .u32 d1, .int .u32 d2, .int .u32 d3, .bool h] 32)).cell? ⟨w.heap.size, 4, none⟩ = some (.int .i64 o) := blk_cell hA rfl
  have x5 : (w.alloc (.cells #[.int .i64 9, .int .i64 c, .int .i64 l, .int .i64 t, .int .i64 o, .int .i64 e, .int .i64 w_, .int .u32 v, .int .u32 d0, .int .u32 d1, .int .u32 d2, .int .u32 d3, .bool h] 32)).cell? ⟨w.heap.size, 5, none⟩ = some (.int .i64 e) := blk_cell hA rfl
  have x6 : (w.alloc (.cells #[.int .i64 9, .int .i64 c, .int .i64 l, .int .i64 t, .int .i64 o, .int .i64 e, .int .i64 w_, .int .u32 v, .int .u32 d0, .int .u32 d1, .int .u32 d2, .int .u32 d3, .bool h] 32)).cell? ⟨w.heap.size, 6, none⟩ = some (.int .i64 w_) := blk_cell hA rfl
  have x7 : (w.alloc (.cells #[.int .i64 9, .int .i64 c, .int .i64 l, .int .i64 t, .int .i64 o, .int .i64 e, .int .i64 w_, .int .u32 v, .int .u32 d0, .int .u32 d1, .int .u32 d2, .int .u32 d3, .bool h] 32)).cell? ⟨w.heap.size, 7, none⟩ = some (.int .u32 v) := blk_cell hA rfl
  have x8 : (w.alloc (.cells #[.int .i64 9, .int .i64 c, .int .i64 l, .int .i64 t, .int .i64 o, .int .i64 e, .int .i64 w_, .int .u32 v, .int .u32 d0, .int .u32 d1, .int .u32 d2, .int .u32 d3, .bool h] 32)).cell? ⟨w.heap.size, 8, none⟩ = some (.int .u32 d0) := blk_cell hA rfl
  have x9 : (w.alloc (.cells #[.int .i64 9, .int .i64 c, .int .i64 l, .int .i64 t, .int .i64 o, .int .i64 e, .int .i64 w_, .int .u32 v, .int .u32 d0, .int .u32 d1, .int .u32 d2, .int .u32 d3, .bool h] 32)).cell? ⟨w.heap.size, 9, none⟩ = some (.int .u32 d1) := blk_cell hA rfl
  have x10 : (w.alloc (.cells #[.int .i64 9, .int .i64 c, .int .i64 l, .int .i64 t, .int .i64 o, .int .i64 e, .int .i64 w_, .int .u32 v, .int .u32 d0, .int .u32 d1, .int .u32 d2, .int .u32 d3, .bool h] 32)).cell? ⟨w.heap.size, 10, none⟩ = some (.int .u32 d2) := blk_cell hA rfl
  have x11 : (w.alloc (.cells #[.int .i64 9, .int .i64 c, .int .i64 l, .int .i64 t, .int .i64 o, .int .i64 e, .int .i64 w_, .int .u32 v, .int .u32 d0, .int .u32 d1, .int .u32 d2, .int .u32 d3, .bool h] 32)).cell? ⟨w.heap.size, 11, none⟩ = some (.int .u32 d3) := blk_cell hA rfl
  have x12 : (w.alloc (.cells #[.int .i64 9, .int .i64 c, .int .i64 l, .int .i64 t, .int .i64 o, .int .i64 e, .int .i64 w_, .int .u32 v, .int .u32 d0, .int .u32 d1, .int .u32 d2, .int .u32 d3, .bool h] 32)).cell? ⟨w.heap.size, 12, none⟩ = some (.bool h) := blk_cell hA rfl
  clear hA
  go_enter Tryd.func37, Tryd.ntmps37
  go_upto_region 2 with fail
  generalize hX : ((w.alloc (.cells #[.int .i64 9, .int .i64 c, .int .i64 l, .int .i64 t, .int .i64 o, .int .i64 e, .int .i64 w_, .int .u32 v, .int .u32 d0, .int .u32 d1, .int .u32 d2, .int .u32 d3, .bool h] 32)).alloc (.cells #[.int .i64 9, .int .i64 c, .int .i64 l, .int .i64 0, .int .i64 0, .int .i64 0, .int .i64 0, .int .u32 0, .int .u32 0, .int .u32 0, .int .u32 0, .int .u32 0, .bool false] 32)) = W0 at *
  clear hX x0 x1 x2 x3 x4 x5 x6 x7 x8 x9 x10 x11 x12
  have p0 : W0.cell? ⟨w.heap.size, 0, none⟩ = some (.int .i64 9) := blk_cell HS0.out.bA rfl
  go_upto_region 14 with fail
  clear p0
  have p0 : W0.cell? ⟨w.heap.size, 5, none⟩ = some (.int .i64 e) := blk_cell HS0.out.bA rfl
  have z0 : W0.cell? ⟨w.heap.size + 1, 5, none⟩ = some (.int .i64 0) := blk_cell HS0.out.bB rfl
  have y0 : W0.frozen? ⟨w.heap.size + 1, 5, none⟩ = false := blk_free HS0.out.bB
  have HS1 : Hid (SM2 w #[.int .i64 9, .int .i64 c, .int .i64 l, .int .i64 t, .int .i64 o, .int .i64 e, .int .i64 w_, .int .u32 v, .int .u32 d0, .int .u32 d1, .int .u32 d2, .int .u32 d3, .bool h] #[.int .i64 9, .int .i64 c, .int .i64 l, .int .i64 0, .int .i64 0, .int .i64 e, .int .i64 0, .int .u32 0, .int .u32 0, .int .u32 0, .int .u32 0, .int .u32 0, .bool false] (W0.setCell ⟨w.heap.size + 1, 5, none⟩ (.int .i64 e))) := Hid.in (HS0.out.set 5 (.int .i64 e))
  go_upto_region 15 with fail
  generalize hX : W0.setCell ⟨w.heap.size + 1, 5, none⟩ (.int .i64 e) = W1 at *
  clear hX HS0 p0 z0 y0
  have HS0 := HS1
  clear HS1
  have p0 : W1.cell? ⟨w.heap.size, 4, none⟩ = some (.int .i64 o) := blk_cell HS0.out.bA rfl
  have z0 : W1.cell? ⟨w.heap.size + 1, 4, none⟩ = some (.int .i64 0) := blk_cell HS0.out.bB rfl
  have y0 : W1.frozen? ⟨w.heap.size + 1, 4, none⟩ = false := blk_free HS0.out.bB
  have HS1 : Hid (SM2 w #[.int .i64 9, .int .i64 c, .int .i64 l, .int .i64 t, .int .i64 o, .int .i64 e, .int .i64 w_, .int .u32 v, .int .u32 d0, .int .u32 d1, .int .u32 d2, .int .u32 d3, .bool h] #[.int .i64 9, .int .i64 c, .int .i64 l, .int .i64 0, .int .i64 o, .int .i64 e, .int .i64 0, .int .u32 0, .int .u32 0, .int .u32 0, .int .u32 0, .int .u32 0, .bool false] (W1.setCell ⟨w.heap.size + 1, 4, none⟩ (.int .i64 o))) := Hid.in (HS0.out.set 4 (.int .i64 o))
  go_upto_region 17 with fail
  generalize hX : W1.setCell ⟨w.heap.size + 1, 4, none⟩ (.int .i64 o) = W2 at *
  clear hX HS0 p0 z0 y0
  have HS0 := HS1
  clear HS1
  have x0 : W2.cell? ⟨w.heap.size, 0, none⟩ = some (.int .i64 9) := blk_cell HS0.out.bA rfl
  have x1 : W2.cell? ⟨w.heap.size, 1, none⟩ = some (.int .i64 c) := blk_cell HS0.out.bA rfl
  have x2 : W2.cell? ⟨w.heap.size, 2, none⟩ = some (.int .i64 l) := blk_cell HS0.out.bA rfl
  have x3 : W2.cell? ⟨w.heap.size, 3, none⟩ = some (.int .i64 t) := blk_cell HS0.out.bA rfl
  have x4 : W2.cell? ⟨w.heap.size, 4, none⟩ = some (.int .i64 o) := blk_cell HS0.out.bA rfl
  have x5 : W2.cell? ⟨w.heap.size, 5, none⟩ = some (.int .i64 e) := blk_cell HS0.out.bA rfl
  have x6 : W2.cell? ⟨w.heap.size, 6, none⟩ = some (.int .i64 w_) := blk_cell HS0.out.bA rfl
  have x7 : W2.cell? ⟨w.heap.size, 7, none⟩ = some (.int .u32 v) := blk_cell HS0.out.bA rfl
  have x8 : W2.cell? ⟨w.heap.size, 8, none⟩ = some (.int .u32 d0) := blk_cell HS0.out.bA rfl
  have x9 : W2.cell? ⟨w.heap.size, 9, none⟩ = some (.int .u32 d1) := blk_cell HS0.out.bA rfl
  have x10 : W2.cell? ⟨w.heap.size, 10, none⟩ = some (.int .u32 d2) := blk_cell HS0.out.bA rfl
  have x11 : W2.cell? ⟨w.heap.size, 11, none⟩ = some (.int .u32 d3) := blk_cell HS0.out.bA rfl
  have x12 : W2.cell? ⟨w.heap.size, 12, none⟩ = some (.bool h) := blk_cell HS0.out.bA rfl
  have y0 : W2.cell? ⟨w.heap.size + 1, 0, none⟩ = some (.int .i64 9) := blk_cell HS0.out.bB rfl
  have y1 : W2.cell? ⟨w.heap.size + 1, 1, none⟩ = some (.int .i64 c) := blk_cell HS0.out.bB rfl
  have y2 : W2.cell? ⟨w.heap.size + 1, 2, none⟩ = some (.int .i64 l) := blk_cell HS0.out.bB rfl
  have y3 : W2.cell? ⟨w.heap.size + 1, 3, none⟩ = some (.int .i64 0) := blk_cell HS0.out.bB rfl
  have y4 : W2.cell? ⟨w.heap.size + 1, 4, none⟩ = some (.int .i64 o) := blk_cell HS0.out.bB rfl
  have y5 : W2.cell? ⟨w.heap.size + 1, 5, none⟩ = some (.int .i64 e) := blk_cell HS0.out.bB rfl
  have y6 : W2.cell? ⟨w.heap.size + 1, 6, none⟩ = some (.int .i64 0) := blk_cell HS0.out.bB rfl
  have y7 : W2.cell? ⟨w.heap.size + 1, 7, none⟩ = some (.int .u32 0) := blk_cell HS0.out.bB rfl
  have y8 : W2.cell? ⟨w.heap.size + 1, 8, none⟩ = some (.int .u32 0) := blk_cell HS0.out.bB rfl
  have y9 : W2.cell? ⟨w.heap.size + 1, 9, none⟩ = some (.int .u32 0) := blk_cell HS0.out.bB rfl
  have y10 : W2.cell? ⟨w.heap.size + 1, 10, none⟩ = some (.int .u32 0) := blk_cell HS0.out.bB rfl
  have y11 : W2.cell? ⟨w.heap.size + 1, 11, none⟩ = some (.int .u32 0) := blk_cell HS0.out.bB rfl
  have y12 : W2.cell? ⟨w.heap.size + 1, 12, none⟩ = some (.bool false) := blk_cell HS0.out.bB rfl
  have hp := qsPool_any 9
  have he := fun w => eq_msgIn' (9, c, l, t, o, e, w_, v, d0, d1, d2, d3, h) (9, c, l, 0, o, e, 0, 0, 0, 0, 0, 0, false) w
  simp only [mv] at he
  have HMK : Hid (maskM (9, c, l, t, o, e, w_, v, d0, d1, d2, d3, h) = (9, c, l, 0, o, e, 0, 0, 0, 0, 0, 0, false)) := Hid.in (rfl)
  rw [show poolS 9 = 1 from by decide] at hp
  have hpk : (1 : Int) ≤ 9 ∧ (9 : Int) ≤ 15 := by decide
  rcases hb : eqB (9, c, l, t, o, e, w_, v, d0, d1, d2, d3, h) (9, c, l, 0, o, e, 0, 0, 0, 0, 0, 0, false) with _ | _
  · rw [hb] at he
    have HRF := Hid.in (rtB_no (9, c, l, t, o, e, w_, v, d0, d1, d2, d3, h) (fun hr => by have h1 := mask_eq _ hr; rw [HMK.out] at h1; have h2 := (eqB_iff (9, c, l, t, o, e, w_, v, d0, d1, d2, d3, h) (9, c, l, 0, o, e, 0, 0, 0, 0, 0, 0, false)).2 h1.symm; rw [hb] at h2; cases h2))
    go_wp2_with fail
    refine (hp _).mono ?_
    rintro r w0 ⟨rfl, rfl⟩
    go_wp2
    go_ret
    exact ⟨by rw [HRF.out]; first | rfl | simp_all, HS0.out.be⟩
  rw [hb] at he
  have HB := Hid.in hb
  clear hb
  by_cases hq : (0 ≤ c ∧ c ≤ 63) ∧ (0 ≤ l ∧ l ≤ 31) ∧ (0 ≤ w_ ∧ w_ ≤ 3) ∧ (0 ≤ o ∧ o ≤ 3) ∧ (0 ≤ e ∧ e ≤ 255) ∧ (0 ≤ t ∧ t ≤ 4)
  rotate_left
  · skip
    have HRF := Hid.in (rtB_no (9, c, l, t, o, e, w_, v, d0, d1, d2, d3, h) (fun hr => hq (by simp only [rtP] at hr; omega)))
    go_wp2_with fail
    refine (hp _).mono ?_
    rintro r w0 ⟨rfl, rfl⟩
    go_wp2
    all_goals (first | (exfalso; omega) | (go_ret; exact ⟨by rw [HRF.out]; first | rfl | simp_all, HS0.out.be⟩))
  obtain ⟨⟨q0, q1⟩, ⟨q2, q3⟩, ⟨q4, q5⟩, ⟨q6, q7⟩, ⟨q8, q9⟩, q10, q11⟩ := hq
  have HR : Hid (((9 : Int) = 13 → ¬ t = 0 ∧ ¬ t = 3) → rtP (9, c, l, t, o, e, w_, v, d0, d1, d2, d3, h)) := Hid.in (fun e2 => rt_of_mask 9 c l t o e w_ v d0 d1 d2 d3 h (by rw [HMK.out]; exact ((eqB_iff _ _).1 HB.out).symm) hpk (by omega) (by omega) (by omega) (by omega) (by omega) (by omega) (fun h => by omega) e2)
  have HRF := Hid.in ((rtB_iff _).2 (HR.out (fun e => by omega)))
  go_wp2_with fail
  refine (hp _).mono ?_
  rintro r w0 ⟨rfl, rfl⟩
  go_wp2
  go_ret
  exact ⟨by rw [HRF.out]; first | rfl | simp_all, HS0.out.be⟩

end Go.Proofs.YtakomlmbdienpaaDoor

namespace Go.Proofs.YtakomlmbdienpaaDoor
open Go.RowKit Go.Extern.Stop Go.Stop Go.Extern

set_option linter.unusedVariables false in
set_option maxHeartbeats 12800000 in
set_option maxRecDepth 20000 in
theorem qsRight_S (w : World) (c l t o e w_ v d0 d1 d2 d3 : Int) (h : Bool) :
    Calls Tryd.prog 37 #[.agg #[.int .i64 5, .int .i64 c, .int .i64 l, .int .i64 t, .int .i64 o, .int .i64 e, .int .i64 w_, .int .u32 v, .int .u32 d0, .int .u32 d1, .int .u32 d2, .int .u32 d3, .bool h]] w fun r w' => r = .returned (.bool (rtB (5, c, l, t, o, e, w_, v, d0, d1, d2, d3, h))) ∧ Below w.heap.size w w' := by
  have HS0 : Hid (SM2 w #[.int .i64 5, .int .i64 c, .int .i64 l, .int .i64 t, .int .i64 o, .int .i64 e, .int .i64 w_, .int .u32 v, .int .u32 d0, .int .u32 d1, .int .u32 d2, .int .u32 d3, .bool h] #[.int .i64 5, .int .i64 c, .int .i64 l, .int .i64 0, .int .i64 0, .int .i64 0, .int .i64 0, .int .u32 0, .int .u32 0, .int .u32 0, .int .u32 0, .int .u32 0, .bool false] ((w.alloc (.cells #[.int .i64 5, .int .i64 c, .int .i64 l, .int .i64 t, .int .i64 o, .int .i64 e, .int .i64 w_, .int .u32 v, .int .u32 d0, .int .u32 d1, .int .u32 d2, .int .u32 d3, .bool h] 32)).alloc (.cells #[.int .i64 5, .int .i64 c, .int .i64 l, .int .i64 0, .int .i64 0, .int .i64 0, .int .i64 0, .int .u32 0, .int .u32 0, .int .u32 0, .int .u32 0, .int .u32 0, .bool false] 32))) := Hid.in (SM2.start _ _ _)
  have hA := heap_alloc_new w (.cells #[.int .i64 5, .int .i64 c, .int .i64 l, .int .i64 t, .int .i64 o, .int .i64 e, .int .i64 w_, .int .u32 v, .int .u32 d0, .int .u32 d1, .int .u32 d2, .int .u32 d3, .bool h] 32)
  have x0 : (w.alloc (.cells #[.int .i64 5, .int .i64 c, .int .i64 l, .int .i64 t, .int .i64 o, .int .i64 e, .int .i64 w_, .int .u32 v, .int .u32 d0, .int .u32 d1, .int .u32 d2, .int .u32 d3, .bool h] 32)).cell? ⟨w.heap.size, 0, none⟩ = some (.int .i64 5) := blk_cell hA rfl
  have x1 : (w.alloc (.cells #[.int .i64 5, .int .i64 c, .int .i64 l, .int .i64 t, .int .i64 o, .int .i64 e, .int .i64 w_, .int .u32 v, .int .u32 d0, .int .u32 d1, .int .u32 d2, .int .u32 d3, .bool h] 32)).cell? ⟨w.heap.size, 1, none⟩ = some (.int .i64 c) := blk_cell hA rfl
  have x2 : (w.alloc (.cells #[.int .i64 5, .int .i64 c, .int .i64 l, .int .i64 t, .int .i64 o, .int .i64 e, .int .i64 w_, .int .u32 v, .int .u32 d0, .int .u32 d1, .int .u32 d2, .int .u32 d3, .bool h] 32)).cell? ⟨w.heap.size, 2, none⟩ = some (.int .i64 l) := blk_cell hA rfl
  have x3 : (w.alloc (.cells #[.int .i64 5, .int .i64 c, .int .i64 l, .int .i64 t, .int .i64 o, .int .i64 e, .int .i64 w_, .int .u32 v, .int .u32 d0, .int .u32 d1, .int .u32 d2, .int .u32 d3, .bool h] 32)).cell? ⟨w.heap.size, 3, none⟩ = some (.int .i64 t) := blk_cell hA rfl
  have x4 : (w.alloc (.cells #[.int .i64 5, .int .i64 c, .int .i64 l, .int .i64 t, .int .i64 o, .int .i64 e, .int .i64 w_, .int .u32 v, .int .u32 d0, .int .u32 d1, .int .u32 d2, .int .u32 d3, .bool h] 32)).cell? ⟨w.heap.size, 4, none⟩ = some (.int .i64 o) := blk_cell hA rfl
  have x5 : (w.alloc (.cells #[.int .i64 5, .int .i64 c, .int .i64 l, .int .i64 t, .int .i64 o, .int .i64 e, .int .i64 w_, .int .u32 v, .int .u32 d0, .int .u32 d1, .int .u32 d2, .int .u32 d3, .bool h] 32)).cell? ⟨w.heap.size, 5, none⟩ = some (.int .i64 e) := blk_cell hA rfl
  have x6 : (w.alloc (.cells #[.int .i64 5, .int .i64 c, .int .i64 l, .int .i64 t, .int .i64 o, .int .i64 e, .int .i64 w_, .int .u32 v, .int .u32 d0, .int .u32 d1, .int .u32 d2, .int .u32 d3, .bool h] 32)).cell? ⟨w.heap.size, 6, none⟩ = some (.int .i64 w_) := blk_cell hA rfl
  have x7 : (w.alloc (.cells #[.int .i64 5, .int .i64 c, .int .i64 l, .int .i64 t, .int .i64 o, .int .i64 e, .int .i64 w_, .int .u32 v, .int .u32 d0, .int .u32 d1, .int .u32 d2, .int .u32 d3, .bool h] 32)).cell? ⟨w.heap.size, 7, none⟩ = some (.int .u32 v) := blk_cell hA rfl
  have x8 : (w.alloc (.cells #[.int .i64 5, .int .i64 c, .int .i64 l, .int .i64 t, .int .i64 o, .int .i64 e, .int .i64 w_, .int .u32 v, .int .u32 d0, .int .u32 d1, .int .u32 d2, .int .u32 d3, .bool h] 32)).cell? ⟨w.heap.size, 8, none⟩ = some (.int .u32 d0) := blk_cell hA rfl
  have x9 : (w.alloc (.cells #[.int .i64 5, .int .i64 c, .int .i64 l, .int .i64 t, .int .i64 o, .int .i64 e, .int .i64 w_, .int .u32 v, .int .u32 d0, .int .u32 d1, .int .u32 d2, .int .u32 d3, .bool h] 32)).cell? ⟨w.heap.size, 9, none⟩ = some (.int .u32 d1) := blk_cell hA rfl
  have x10 : (w.alloc (.cells #[.int .i64 5, .int .i64 c, .int .i64 l, .int .i64 t, .int .i64 o, .int .i64 e, .int .i64 w_, .int .u32 v, .int .u32 d0, .int .u32 d1, .int .u32 d2, .int .u32 d3, .bool h] 32)).cell? ⟨w.heap.size, 10, none⟩ = some (.int .u32 d2) := blk_cell hA rfl
  have x11 : (w.alloc (.cells #[.int .i64 5, .int .i64 c, .int .i64 l, .int .i64 t, .int .i64 o, .int .i64 e, .int .i64 w_, .int .u32 v, .int .u32 d0, .int .u32 d1, .int .u32 d2, .int .u32 d3, .bool h] 32)).cell? ⟨w.heap.size, 11, none⟩ = some (.int .u32 d3) := blk_cell hA rfl
  have x12 : (w.alloc (.cells #[.int .i64 5, .int .i64 c, .int .i64 l, .int .i64 t, .int .i64 o, .int .i64 e, .int .i64 w_, .int .u32 v, .int .u32 d0, .int .u32 d1, .int .u32 d2, .int .u32 d3, .bool h] 32)).cell? ⟨w.heap.size, 12, none⟩ = some (.bool h) := blk_cell hA rfl
  clear hA
  go_enter Tryd.func37, Tryd.ntmps37
  go_upto_region 2 with fail
  generalize hX : ((w.alloc (.cells #[.int .i64 5, .int .i64 c, .int .i64 l, .int .i64 t, .int .i64 o, .int .i64 e, .int .i64 w_, .int .u32 v, .int .u32 d0, .int .u32 d1, .int .u32 d2, .int .u32 d3, .bool h] 32)).alloc (.cells #[.int .i64 5, .int .i64 c, .int .i64 l, .int .i64 0, .int .i64 0, .int .i64 0, .int .i64 0, .int .u32 0, .int .u32 0, .int .u32 0, .int .u32 0, .int .u32 0, .bool false] 32)) = W0 at *
  clear hX x0 x1 x2 x3 x4 x5 x6 x7 x8 x9 x10 x11 x12
  have p0 : W0.cell? ⟨w.heap.size, 0, none⟩ = some (.int .i64 5) := blk_cell HS0.out.bA rfl
  go_upto_region 15 with fail
  clear p0
  have p0 : W0.cell? ⟨w.heap.size, 4, none⟩ = some (.int .i64 o) := blk_cell HS0.out.bA rfl
  have z0 : W0.cell? ⟨w.heap.size + 1, 4, none⟩ = some (.int .i64 0) := blk_cell HS0.out.bB rfl
  have y0 : W0.frozen? ⟨w.heap.size + 1, 4, none⟩ = false := blk_free HS0.out.bB
  have HS1 : Hid (SM2 w #[.int .i64 5, .int .i64 c, .int .i64 l, .int .i64 t, .int .i64 o, .int .i64 e, .int .i64 w_, .int .u32 v, .int .u32 d0, .int .u32 d1, .int .u32 d2, .int .u32 d3, .bool h] #[.int .i64 5, .int .i64 c, .int .i64 l, .int .i64 0, .int .i64 o, .int .i64 0, .int .i64 0, .int .u32 0, .int .u32 0, .int .u32 0, .int .u32 0, .int .u32 0, .bool false] (W0.setCell ⟨w.heap.size + 1, 4, none⟩ (.int .i64 o))) := Hid.in (HS0.out.set 4 (.int .i64 o))
  go_upto_region 17 with fail
  generalize hX : W0.setCell ⟨w.heap.size + 1, 4, none⟩ (.int .i64 o) = W1 at *
  clear hX HS0 p0 z0 y0
  have HS0 := HS1
  clear HS1
  have x0 : W1.cell? ⟨w.heap.size, 0, none⟩ = some (.int .i64 5) := blk_cell HS0.out.bA rfl
  have x1 : W1.cell? ⟨w.heap.size, 1, none⟩ = some (.int .i64 c) := blk_cell HS0.out.bA rfl
  have x2 : W1.cell? ⟨w.heap.size, 2, none⟩ = some (.int .i64 l) := blk_cell HS0.out.bA rfl
  have x3 : W1.cell? ⟨w.heap.size, 3, none⟩ = some (.int .i64 t) := blk_cell HS0.out.bA rfl
  have x4 : W1.cell? ⟨w.heap.size, 4, none⟩ = some (.int .i64 o) := blk_cell HS0.out.bA rfl
  have x5 : W1.cell? ⟨w.heap.size, 5, none⟩ = some (.int .i64 e) := blk_cell HS0.out.bA rfl
  have x6 : W1.cell? ⟨w.heap.size, 6, none⟩ = some (.int .i64 w_) := blk_cell HS0.out.bA rfl
  have x7 : W1.cell? ⟨w.heap.size, 7, none⟩ = some (.int .u32 v) := blk_cell HS0.out.bA rfl
  have x8 : W1.cell? ⟨w.heap.size, 8, none⟩ = some (.int .u32 d0) := blk_cell HS0.out.bA rfl
  have x9 : W1.cell? ⟨w.heap.size, 9, none⟩ = some (.int .u32 d1) := blk_cell HS0.out.bA rfl
  have x10 : W1.cell? ⟨w.heap.size, 10, none⟩ = some (.int .u32 d2) := blk_cell HS0.out.bA rfl
  have x11 : W1.cell? ⟨w.heap.size, 11, none⟩ = some (.int .u32 d3) := blk_cell HS0.out.bA rfl
  have x12 : W1.cell? ⟨w.heap.size, 12, none⟩ = some (.bool h) := blk_cell HS0.out.bA rfl
  have y0 : W1.cell? ⟨w.heap.size + 1, 0, none⟩ = some (.int .i64 5) := blk_cell HS0.out.bB rfl
  have y1 : W1.cell? ⟨w.heap.size + 1, 1, none⟩ = some (.int .i64 c) := blk_cell HS0.out.bB rfl
  have y2 : W1.cell? ⟨w.heap.size + 1, 2, none⟩ = some (.int .i64 l) := blk_cell HS0.out.bB rfl
  have y3 : W1.cell? ⟨w.heap.size + 1, 3, none⟩ = some (.int .i64 0) := blk_cell HS0.out.bB rfl
  have y4 : W1.cell? ⟨w.heap.size + 1, 4, none⟩ = some (.int .i64 o) := blk_cell HS0.out.bB rfl
  have y5 : W1.cell? ⟨w.heap.size + 1, 5, none⟩ = some (.int .i64 0) := blk_cell HS0.out.bB rfl
  have y6 : W1.cell? ⟨w.heap.size + 1, 6, none⟩ = some (.int .i64 0) := blk_cell HS0.out.bB rfl
  have y7 : W1.cell? ⟨w.heap.size + 1, 7, none⟩ = some (.int .u32 0) := blk_cell HS0.out.bB rfl
  have y8 : W1.cell? ⟨w.heap.size + 1, 8, none⟩ = some (.int .u32 0) := blk_cell HS0.out.bB rfl
  have y9 : W1.cell? ⟨w.heap.size + 1, 9, none⟩ = some (.int .u32 0) := blk_cell HS0.out.bB rfl
  have y10 : W1.cell? ⟨w.heap.size + 1, 10, none⟩ = some (.int .u32 0) := blk_cell HS0.out.bB rfl
  have y11 : W1.cell? ⟨w.heap.size + 1, 11, none⟩ = some (.int .u32 0) := blk_cell HS0.out.bB rfl
  have y12 : W1.cell? ⟨w.heap.size + 1, 12, none⟩ = some (.bool false) := blk_cell HS0.out.bB rfl
  have hp := qsPool_any 5
  have he := fun w => eq_msgIn' (5, c, l, t, o, e, w_, v, d0, d1, d2, d3, h) (5, c, l, 0, o, 0, 0, 0, 0, 0, 0, 0, false) w
  simp only [mv] at he
  have HMK : Hid (maskM (5, c, l, t, o, e, w_, v, d0, d1, d2, d3, h) = (5, c, l, 0, o, 0, 0, 0, 0, 0, 0, 0, false)) := Hid.in (rfl)
  rw [show poolS 5 = 1 from by decide] at hp
  have hpk : (1 : Int) ≤ 5 ∧ (5 : Int) ≤ 15 := by decide
  rcases hb : eqB (5, c, l, t, o, e, w_, v, d0, d1, d2, d3, h) (5, c, l, 0, o, 0, 0, 0, 0, 0, 0, 0, false) with _ | _
  · rw [hb] at he
    have HRF := Hid.in (rtB_no (5, c, l, t, o, e, w_, v, d0, d1, d2, d3, h) (fun hr => by have h1 := mask_eq _ hr; rw [HMK.out] at h1; have h2 := (eqB_iff (5, c, l, t, o, e, w_, v, d0, d1, d2, d3, h) (5, c, l, 0, o, 0, 0, 0, 0, 0, 0, 0, false)).2 h1.symm; rw [hb] at h2; cases h2))
    go_wp2_with fail
    refine (hp _).mono ?_
    rintro r w0 ⟨rfl, rfl⟩
    go_wp2
    go_ret
    exact ⟨by rw [HRF.out]; first | rfl | simp_all, HS0.out.be⟩
  rw [hb] at he
  have HB := Hid.in hb
  clear hb
  by_cases hq : (0 ≤ c ∧ c ≤ 63) ∧ (0 ≤ l ∧ l ≤ 31) ∧ (0 ≤ w_ ∧ w_ ≤ 3) ∧ (0 ≤ o ∧ o ≤ 3) ∧ (0 ≤ e ∧ e ≤ 255) ∧ (0 ≤ t ∧ t ≤ 4)
  rotate_left
  · skip
    have HRF := Hid.in (rtB_no (5, c, l, t, o, e, w_, v, d0, d1, d2, d3, h) (fun hr => hq (by simp only [rtP] at hr; omega)))
    go_wp2_with fail
    refine (hp _).mono ?_
    rintro r w0 ⟨rfl, rfl⟩
    go_wp2
    all_goals (first | (exfalso; omega) | (go_ret; exact ⟨by rw [HRF.out]; first | rfl | simp_all, HS0.out.be⟩))
  obtain ⟨⟨q0, q1⟩, ⟨q2, q3⟩, ⟨q4, q5⟩, ⟨q6, q7⟩, ⟨q8, q9⟩, q10, q11⟩ := hq
  have HR : Hid (((5 : Int) = 13 → ¬ t = 0 ∧ ¬ t = 3) → rtP (5, c, l, t, o, e, w_, v, d0, d1, d2, d3, h)) := Hid.in (fun e2 => rt_of_mask 5 c l t o e w_ v d0 d1 d2 d3 h (by rw [HMK.out]; exact ((eqB_iff _ _).1 HB.out).symm) hpk (by omega) (by omega) (by omega) (by omega) (by omega) (by omega) (fun h => by omega) e2)
  have HRF := Hid.in ((rtB_iff _).2 (HR.out (fun e => by omega)))
  go_wp2_with fail
  refine (hp _).mono ?_
  rintro r w0 ⟨rfl, rfl⟩
  go_wp2
  go_ret
  exact ⟨by rw [HRF.out]; first | rfl | simp_all, HS0.out.be⟩

end Go.Proofs.YtakomlmbdienpaaDoor

namespace Go.Proofs.YtakomlmbdienpaaDoor
open Go.RowKit Go.Extern.Stop Go.Stop Go.Extern

set_option linter.unusedVariables false in
set_option maxHeartbeats 12800000 in
set_option maxRecDepth 20000 in
theorem qsRight_B (w : World) (k c l t o e w_ v d0 d1 d2 d3 : Int) (h : Bool) (g3 : ¬ k = 3) (g8 : ¬ k = 8) (g14 : ¬ k = 14) (g9 : ¬ k = 9) (g5 : ¬ k = 5) (g13 : ¬ k = 13) (g11 : ¬ k = 11) :
    Calls Tryd.prog 37 #[.agg #[.int .i64 k, .int .i64 c, .int .i64 l, .int .i64 t, .int .i64 o, .int .i64 e, .int .i64 w_, .int .u32 v, .int .u32 d0, .int .u32 d1, .int .u32 d2, .int .u32 d3, .bool h]] w fun r w' => r = .returned (.bool (rtB (k, c, l, t, o, e, w_, v, d0, d1, d2, d3, h))) ∧ Below w.heap.size w w' := by
  have HS0 : Hid (SM2 w #[.int .i64 k, .int .i64 c, .int .i64 l, .int .i64 t, .int .i64 o, .int .i64 e, .int .i64 w_, .int .u32 v, .int .u32 d0, .int .u32 d1, .int .u32 d2, .int .u32 d3, .bool h] #[.int .i64 k, .int .i64 c, .int .i64 l, .int .i64 0, .int .i64 0, .int .i64 0, .int .i64 0, .int .u32 0, .int .u32 0, .int .u32 0, .int .u32 0, .int .u32 0, .bool false] ((w.alloc (.cells #[.int .i64 k, .int .i64 c, .int .i64 l, .int .i64 t, .int .i64 o, .int .i64 e, .int .i64 w_, .int .u32 v, .int .u32 d0, .int .u32 d1, .int .u32 d2, .int .u32 d3, .bool h] 32)).alloc (.cells #[.int .i64 k, .int .i64 c, .int .i64 l, .int .i64 0, .int .i64 0, .int .i64 0, .int .i64 0, .int .u32 0, .int .u32 0, .int .u32 0, .int .u32 0, .int .u32 0, .bool false] 32))) := Hid.in (SM2.start _ _ _)
  have hA := heap_alloc_new w (.cells #[.int .i64 k, .int .i64 c, .int .i64 l, .int .i64 t, .int .i64 o, .int .i64 e, .int .i64 w_, .int .u32 v, .int .u32 d0, .int .u32 d1, .int .u32 d2, .int .u32 d3, .bool h] 32)
  have x0 : (w.alloc (.cells #[.int .i64 k, .int .i64 c, .int .i64 l, .int .i64 t, .int .i64 o, .int .i64 e, .int .i64 w_, .int .u32 v, .int .u32 d0, .int .u32 d1, .int .u32 d2, .int .u32 d3, .bool h] 32)).cell? ⟨w.heap.size, 0, none⟩ = some (.int .i64 k) := blk_cell hA rfl
  have x1 : (w.alloc (.cells #[.int .i64 k, .int .i64 c, .int .i64 l, .int .i64 t, .int .i64 o, .int .i64 e, .int .i64 w_, .int .u32 v, .int .u32 d0, .int .u32 d1, .int .u32 d2, .int .u32 d3, .bool h] 32)).cell? ⟨w.heap.size, 1, none⟩ = some (.int .i64 c) := blk_cell hA rfl
  have x2 : (w.alloc (.cells #[.int .i64 k, .int .i64 c, .int .i64 l, .int .i64 t, .int .i64 o, .int .i64 e, .int .i64 w_, .int .u32 v, .int .u32 d0, .int .u32 d1, .int .u32 d2, .int .u32 d3, .bool h] 32)).cell? ⟨w.heap.size, 2, none⟩ = some (.int .i64 l) := blk_cell hA rfl
  have x3 : (w.alloc (.cells #[.int .i64 k, .int .i64 c, .int .i64 l, .int .i64 t, .int .i64 o, .int .i64 e, .int .i64 w_, .int .u32 v, .int .u32 d0, .int .u32 d1, .int .u32 d2, .int .u32 d3, .bool h] 32)).cell? ⟨w.heap.size, 3, none⟩ = some (.int .i64 t) := blk_cell hA rfl
  have x4 : (w.alloc (.cells #[.int .i64 k, .int .i64 c, .int .i64 l, .int .i64 t, .int .i64 o, .int .i64 e, .int .i64 w_, .int .u32 v, .int .u32 d0, .int .u32 d1, .int .u32 d2, .int .u32 d3, .bool h] 32)).cell? ⟨w.heap.size, 4, none⟩ = some (.int .i64 o) := blk_cell hA rfl
  have x5 : (w.alloc (.cells #[.int .i64 k, .int .i64 c, .int .i64 l, .int .i64 t, .int .i64 o, .int .i64 e, .int .i64 w_, .int .u32 v, .int .u32 d0, .int .u32 d1, .int .u32 d2, .int .u32 d3, .bool h] 32)).cell? ⟨w.heap.size, 5, none⟩ = some (.int .i64 e) := blk_cell hA rfl
  have x6 : (w.alloc (.cells #[.int .i64 k, .int .i64 c, .int .i64 l, .int .i64 t, .int .i64 o, .int .i64 e, .int .i64 w_, .int .u32 v, .int .u32 d0, .int .u32 d1, .int .u32 d2, .int .u32 d3, .bool h] 32)).cell? ⟨w.heap.size, 6, none⟩ = some (.int .i64 w_) := blk_cell hA rfl
  have x7 : (w.alloc (.cells #[.int .i64 k, .int .i64 c, .int .i64 l, .int .i64 t, .int .i64 o, .int .i64 e, .int .i64 w_, .int .u32 v, .int .u32 d0, .int .u32 d1, .int .u32 d2, .int .u32 d3, .bool h] 32)).cell? ⟨w.heap.size, 7, none⟩ = some (.int .u32 v) := blk_cell hA rfl
  have x8 : (w.alloc (.cells #[.int .i64 k, .int .i64 c, .int .i64 l, .int .i64 t, .int .i64 o, .int .i64 e, .int .i64 w_, .int .u32 v, .int .u32 d0, .int .u32 d1, .int .u32 d2, .int .u32 d3, .bool h] 32)).cell? ⟨w.heap.size, 8, none⟩ = some (.int .u32 d0) := blk_cell hA rfl
  have x9 : (w.alloc (.cells #[.int .i64 k, .int .i64 c, .int .i64 l, .int .i64 t, .int .i64 o, .int .i64 e, .int .i64 w_, .int .u32 v, .int .u32 d0, .int .u32 d1, .int .u32 d2, .int .u32 d3, .bool h] 32)).cell? ⟨w.heap.size, 9, none⟩ = some (.int .u32 d1) := blk_cell hA rfl
  have x10 : (w.alloc (.cells #[.int .i64 k, .int .i64 c, .int .i64 l, .int .i64 t, .int .i64 o, .int .i64 e, .int .i64 w_, .int .u32 v, .int .u32 d0, .int .u32 d1, .int .u32 d2, .int .u32 d3, .bool h] 32)).cell? ⟨w.heap.size, 10, none⟩ = some (.int .u32 d2) := blk_cell hA rfl
  have x11 : (w.alloc (.cells #[.int .i64 k, .int .i64 c, .int .i64 l, .int .i64 t, .int .i64 o, .int .i64 e, .int .i64 w_, .int .u32 v, .int .u32 d0, .int .u32 d1, .int .u32 d2, .int .u32 d3, .bool h] 32)).cell? ⟨w.heap.size, 11, none⟩ = some (.int .u32 d3) := blk_cell hA rfl
  have x12 : (w.alloc (.cells #[.int .i64 k, .int .i64 c, .int .i64 l, .int .i64 t, .int .i64 o, .int .i64 e, .int .i64 w_, .int .u32 v, .int .u32 d0, .int .u32 d1, .int .u32 d2, .int .u32 d3, .bool h] 32)).cell? ⟨w.heap.size, 12, none⟩ = some (.bool h) := blk_cell hA rfl
  clear hA
  go_enter Tryd.func37, Tryd.ntmps37
  go_upto_region 2 with fail
  generalize hX : ((w.alloc (.cells #[.int .i64 k, .int .i64 c, .int .i64 l, .int .i64 t, .int .i64 o, .int .i64 e, .int .i64 w_, .int .u32 v, .int .u32 d0, .int .u32 d1, .int .u32 d2, .int .u32 d3, .bool h] 32)).alloc (.cells #[.int .i64 k, .int .i64 c, .int .i64 l, .int .i64 0, .int .i64 0, .int .i64 0, .int .i64 0, .int .u32 0, .int .u32 0, .int .u32 0, .int .u32 0, .int .u32 0, .bool false] 32)) = W0 at *
  clear hX x0 x1 x2 x3 x4 x5 x6 x7 x8 x9 x10 x11 x12
  have p0 : W0.cell? ⟨w.heap.size, 0, none⟩ = some (.int .i64 k) := blk_cell HS0.out.bA rfl
  go_upto_region 17 with fail
  clear p0
  have x0 : W0.cell? ⟨w.heap.size, 0, none⟩ = some (.int .i64 k) := blk_cell HS0.out.bA rfl
  have x1 : W0.cell? ⟨w.heap.size, 1, none⟩ = some (.int .i64 c) := blk_cell HS0.out.bA rfl
  have x2 : W0.cell? ⟨w.heap.size, 2, none⟩ = some (.int .i64 l) := blk_cell HS0.out.bA rfl
  have x3 : W0.cell? ⟨w.heap.size, 3, none⟩ = some (.int .i64 t) := blk_cell HS0.out.bA rfl
  have x4 : W0.cell? ⟨w.heap.size, 4, none⟩ = some (.int .i64 o) := blk_cell HS0.out.bA rfl
  have x5 : W0.cell? ⟨w.heap.size, 5, none⟩ = some (.int .i64 e) := blk_cell HS0.out.bA rfl
  have x6 : W0.cell? ⟨w.heap.size, 6, none⟩ = some (.int .i64 w_) := blk_cell HS0.out.bA rfl
  have x7 : W0.cell? ⟨w.heap.size, 7, none⟩ = some (.int .u32 v) := blk_cell HS0.out.bA rfl
  have x8 : W0.cell? ⟨w.heap.size, 8, none⟩ = some (.int .u32 d0) := blk_cell HS0.out.bA rfl
  have x9 : W0.cell? ⟨w.heap.size, 9, none⟩ = some (.int .u32 d1) := blk_cell HS0.out.bA rfl
  have x10 : W0.cell? ⟨w.heap.size, 10, none⟩ = some (.int .u32 d2) := blk_cell HS0.out.bA rfl
  have x11 : W0.cell? ⟨w.heap.size, 11, none⟩ = some (.int .u32 d3) := blk_cell HS0.out.bA rfl
  have x12 : W0.cell? ⟨w.heap.size, 12, none⟩ = some (.bool h) := blk_cell HS0.out.bA rfl
  have y0 : W0.cell? ⟨w.heap.size + 1, 0, none⟩ = some (.int .i64 k) := blk_cell HS0.out.bB rfl
  have y1 : W0.cell? ⟨w.heap.size + 1, 1, none⟩ = some (.int .i64 c) := blk_cell HS0.out.bB rfl
  have y2 : W0.cell? ⟨w.heap.size + 1, 2, none⟩ = some (.int .i64 l) := blk_cell HS0.out.bB rfl
  have y3 : W0.cell? ⟨w.heap.size + 1, 3, none⟩ = some (.int .i64 0) := blk_cell HS0.out.bB rfl
  have y4 : W0.cell? ⟨w.heap.size + 1, 4, none⟩ = some (.int .i64 0) := blk_cell HS0.out.bB rfl
  have y5 : W0.cell? ⟨w.heap.size + 1, 5, none⟩ = some (.int .i64 0) := blk_cell HS0.out.bB rfl
  have y6 : W0.cell? ⟨w.heap.size + 1, 6, none⟩ = some (.int .i64 0) := blk_cell HS0.out.bB rfl
  have y7 : W0.cell? ⟨w.heap.size + 1, 7, none⟩ = some (.int .u32 0) := blk_cell HS0.out.bB rfl
  have y8 : W0.cell? ⟨w.heap.size + 1, 8, none⟩ = some (.int .u32 0) := blk_cell HS0.out.bB rfl
  have y9 : W0.cell? ⟨w.heap.size + 1, 9, none⟩ = some (.int .u32 0) := blk_cell HS0.out.bB rfl
  have y10 : W0.cell? ⟨w.heap.size + 1, 10, none⟩ = some (.int .u32 0) := blk_cell HS0.out.bB rfl
  have y11 : W0.cell? ⟨w.heap.size + 1, 11, none⟩ = some (.int .u32 0) := blk_cell HS0.out.bB rfl
  have y12 : W0.cell? ⟨w.heap.size + 1, 12, none⟩ = some (.bool false) := blk_cell HS0.out.bB rfl
  have hp := qsPool_any k
  have he := fun w => eq_msgIn' (k, c, l, t, o, e, w_, v, d0, d1, d2, d3, h) (k, c, l, 0, 0, 0, 0, 0, 0, 0, 0, 0, false) w
  simp only [mv] at he
  have HMK : Hid (maskM (k, c, l, t, o, e, w_, v, d0, d1, d2, d3, h) = (k, c, l, 0, 0, 0, 0, 0, 0, 0, 0, 0, false)) := Hid.in (by simp [maskM, g3, g8, g14, g9, g5, g13, g11])
  by_cases hpk : 1 ≤ k ∧ k ≤ 15
  rotate_left
  · rw [pool_out k hpk] at hp
    have HRF := Hid.in (rtB_no (k, c, l, t, o, e, w_, v, d0, d1, d2, d3, h) (fun hr => hpk hr.1))
    go_wp2_with fail
    refine (hp _).mono ?_
    rintro r w0 ⟨rfl, rfl⟩
    go_wp2
    go_ret
    exact ⟨by rw [HRF.out]; first | rfl | simp_all, HS0.out.be⟩
  obtain ⟨p, hpe, p0, p1⟩ : ∃ p, poolS k = p ∧ 0 ≤ p ∧ p ≤ 3 := ⟨_, rfl, (pool_in k hpk.1 hpk.2).1, (pool_in k hpk.1 hpk.2).2⟩
  rw [hpe] at hp
  clear hpe p1
  rcases hb : eqB (k, c, l, t, o, e, w_, v, d0, d1, d2, d3, h) (k, c, l, 0, 0, 0, 0, 0, 0, 0, 0, 0, false) with _ | _
  · rw [hb] at he
    have HRF := Hid.in (rtB_no (k, c, l, t, o, e, w_, v, d0, d1, d2, d3, h) (fun hr => by have h1 := mask_eq _ hr; rw [HMK.out] at h1; have h2 := (eqB_iff (k, c, l, t, o, e, w_, v, d0, d1, d2, d3, h) (k, c, l, 0, 0, 0, 0, 0, 0, 0, 0, 0, false)).2 h1.symm; rw [hb] at h2; cases h2))
    go_wp2_with fail
    refine (hp _).mono ?_
    rintro r w0 ⟨rfl, rfl⟩
    go_wp2
    go_ret
    exact ⟨by rw [HRF.out]; first | rfl | simp_all, HS0.out.be⟩
  rw [hb] at he
  have HB := Hid.in hb
  clear hb
  by_cases hq : (0 ≤ c ∧ c ≤ 63) ∧ (0 ≤ l ∧ l ≤ 31) ∧ (0 ≤ w_ ∧ w_ ≤ 3) ∧ (0 ≤ o ∧ o ≤ 3) ∧ (0 ≤ e ∧ e ≤ 255) ∧ (0 ≤ t ∧ t ≤ 4)
  rotate_left
  · skip
    have HRF := Hid.in (rtB_no (k, c, l, t, o, e, w_, v, d0, d1, d2, d3, h) (fun hr => hq (by simp only [rtP] at hr; omega)))
    go_wp2_with fail
    refine (hp _).mono ?_
    rintro r w0 ⟨rfl, rfl⟩
    go_wp2
    all_goals (first | (exfalso; omega) | (go_ret; exact ⟨by rw [HRF.out]; first | rfl | simp_all, HS0.out.be⟩))
  obtain ⟨⟨q0, q1⟩, ⟨q2, q3⟩, ⟨q4, q5⟩, ⟨q6, q7⟩, ⟨q8, q9⟩, q10, q11⟩ := hq
  have HR : Hid (((k : Int) = 13 → ¬ t = 0 ∧ ¬ t = 3) → rtP (k, c, l, t, o, e, w_, v, d0, d1, d2, d3, h)) := Hid.in (fun e2 => rt_of_mask k c l t o e w_ v d0 d1 d2 d3 h (by rw [HMK.out]; exact ((eqB_iff _ _).1 HB.out).symm) hpk (by omega) (by omega) (by omega) (by omega) (by omega) (by omega) (fun h => by omega) e2)
  have f0 : (k != (13 : Int)) = true := by simpa using g13
  have HRF := Hid.in ((rtB_iff _).2 (HR.out (fun e => by omega)))
  go_wp2_with fail
  refine (hp _).mono ?_
  rintro r w0 ⟨rfl, rfl⟩
  go_wp2
  go_ret
  exact ⟨by rw [HRF.out]; first | rfl | simp_all, HS0.out.be⟩

end Go.Proofs.YtakomlmbdienpaaDoor

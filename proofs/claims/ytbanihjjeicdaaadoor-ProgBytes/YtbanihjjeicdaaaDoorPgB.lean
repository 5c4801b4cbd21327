/- DERIVED of the program: prog.put and prog.Put by their contracts. Own work. -/
import Derived.Test.YtbanihjjeicdaaaDoorPgA
namespace Go.Proofs.YtbanihjjeicdaaaDoor
open Go.RowKit Go.Extern.Stop Go.Stop Go.Extern

theorem num_l (ao : Option Addr) (N cap : Nat) (bs : List Nat) (n : Int) (w : World) (hN : N = bs.length) (hL : Lie w ao cap bs) (hlen : bs.length ≤ 140737488355000) (h0 : -9223372036854775808 ≤ n) (h1 : n ≤ 9223372036854775807) :
    Calls Tryd.prog 24 #[.slice ao N cap, .int .i64 n] w fun r w' => ∃ ao' M c', r = .returned (.slice ao' M c') ∧ M = (bs ++ enc (zz n)).length ∧ Lie w' ao' c' (bs ++ enc (zz n)) ∧ Below w.heap.size w w' := by
  subst hN
  refine (num_any ao cap bs n w hL hlen h0 h1).mono ?_
  rintro r w' ⟨ao', c, rfl, hO, hb⟩
  exact ⟨ao', _, c, rfl, by rw [List.length_append], hO.lie, hb⟩

theorem blk_step {w w' : World} {g : Nat} {o : Obj} (h : w.heap[g]? = some o) (hb : Below w.heap.size w w') : w'.heap[g]? = some o := (hb.block g (blk_lt h)).trans h

set_option maxRecDepth 20000 in
theorem gput_3 (ao : Option Addr) (N cap : Nat) (bs : List Nat) (a v o : Int) (w : World) (hN : N = bs.length) (hL : Lie w ao cap bs) (hlen : bs.length ≤ 140737488350000) (a0 : 0 ≤ a) (a1 : a < 128) (v0 : 0 ≤ v) (v1 : v < 4294967296) (o0 : 0 ≤ o) (o1 : o < 4294967296) :
    Calls Tryd.prog 25 #[.slice ao N cap, .agg #[.int .i64 3, .int .i64 a, .int .u32 v, .int .u32 o]] w fun r w' => ∃ ao' M c', r = .returned (.slice ao' M c') ∧ M = (bs ++ encO (3, a, v, o)).length ∧ Lie w' ao' c' (bs ++ encO (3, a, v, o)) ∧ Below w.heap.size w w' := by
  have HL := Hid.in hL
  have HN := Hid.in hN
  clear hL hN
  have e0 := num_len 3 (by decide) (by decide)
  have ea := num_len a (by omega) (by omega)
  have ev := num_len v (by omega) (by omega)
  have eo := num_len o (by omega) (by omega)
  go_enter Tryd.func25, Tryd.ntmps25
  go_wp2_with fail
  refine (named_3 _).mono ?_
  rintro r w1 ⟨rfl, hb⟩
  have HO1 : Hid (w1.heap[w.heap.size]? = some (.cells #[.int .i64 3, .int .i64 a, .int .u32 v, .int .u32 o] 29 (0, 0))) := Hid.in (blk_step (heap_alloc_new _ _) hb)
  have HB1 := Hid.in (bstep (below_alloc w _) (Nat.le_refl _) hb)
  clear hb
  have x0 : w1.cell? ⟨w.heap.size, 0, none⟩ = some (.int .i64 3) := blk_cell HO1.out rfl
  have hlt : w.heap.size < w1.heap.size := blk_lt HO1.out
  go_wp2_with fail
  refine (num_l _ N _ bs 3 _ HN.out (HL.out.step (bstep HB1.out (Nat.le_refl _) (below_alloc _ _))) (by omega) (by decide) (by decide)).mono ?_
  rintro r w2 ⟨ao2, M2, c2, rfl, hM2, hL2, hb2⟩
  have HF2 : Hid (w2.heap[w1.heap.size]? = some (.cells #[.bool true, .bool true, .bool true] 67 (0, 0))) := Hid.in (blk_step (heap_alloc_new _ _) hb2)
  have HO2 := Hid.in (blk_step (blk_step HO1.out (below_alloc w1 (.cells #[.bool true, .bool true, .bool true] 67))) hb2)
  have HB2 := Hid.in (bstep (bstep HB1.out (Nat.le_refl _) (below_alloc _ _)) (Nat.le_refl _) hb2)
  have HM2 := Hid.in hM2
  have HL2 := Hid.in hL2
  clear hb2 hM2 hL2 x0 hlt HO1 HB1
  have ya : w2.cell? ⟨w1.heap.size, 0, none⟩ = some (.bool true) := blk_cell HF2.out rfl
  have xa : w2.cell? ⟨w.heap.size, 1, none⟩ = some (.int .i64 a) := blk_cell HO2.out rfl
  have yv : w2.cell? ⟨w1.heap.size, 1, none⟩ = some (.bool true) := blk_cell HF2.out rfl
  have xv : w2.cell? ⟨w.heap.size, 2, none⟩ = some (.int .u32 v) := blk_cell HO2.out rfl
  have yo : w2.cell? ⟨w1.heap.size, 2, none⟩ = some (.bool true) := blk_cell HF2.out rfl
  have xo : w2.cell? ⟨w.heap.size, 3, none⟩ = some (.int .u32 o) := blk_cell HO2.out rfl
  go_wp2_with fail
  refine (num_l _ M2 _ (bs ++ enc (zz 3)) a _ HM2.out HL2.out (by simp only [List.length_append]; omega) (by omega) (by omega)).mono ?_
  rintro r w3 ⟨ao3, M3, c3, rfl, hM3, hL3, hb3⟩
  have HF3 := Hid.in (blk_step HF2.out hb3)
  have HO3 := Hid.in (blk_step HO2.out hb3)
  have HB3 := Hid.in (bstep HB2.out (Nat.le_refl _) hb3)
  have HM3 := Hid.in hM3
  have HL3 := Hid.in hL3
  clear hb3 hM3 hL3 xa xv xo ya yv yo HF2 HO2 HB2 HM2 HL2
  have ya : w3.cell? ⟨w1.heap.size, 0, none⟩ = some (.bool true) := blk_cell HF3.out rfl
  have xa : w3.cell? ⟨w.heap.size, 1, none⟩ = some (.int .i64 a) := blk_cell HO3.out rfl
  have yv : w3.cell? ⟨w1.heap.size, 1, none⟩ = some (.bool true) := blk_cell HF3.out rfl
  have xv : w3.cell? ⟨w.heap.size, 2, none⟩ = some (.int .u32 v) := blk_cell HO3.out rfl
  have yo : w3.cell? ⟨w1.heap.size, 2, none⟩ = some (.bool true) := blk_cell HF3.out rfl
  have xo : w3.cell? ⟨w.heap.size, 3, none⟩ = some (.int .u32 o) := blk_cell HO3.out rfl
  go_wp2_with fail
  refine (num_l _ M3 _ ((bs ++ enc (zz 3)) ++ enc (zz a)) v _ HM3.out HL3.out (by simp only [List.length_append]; omega) (by omega) (by omega)).mono ?_
  rintro r w4 ⟨ao4, M4, c4, rfl, hM4, hL4, hb4⟩
  have HF4 := Hid.in (blk_step HF3.out hb4)
  have HO4 := Hid.in (blk_step HO3.out hb4)
  have HB4 := Hid.in (bstep HB3.out (Nat.le_refl _) hb4)
  have HM4 := Hid.in hM4
  have HL4 := Hid.in hL4
  clear hb4 hM4 hL4 xa xv xo ya yv yo HF3 HO3 HB3 HM3 HL3
  have ya : w4.cell? ⟨w1.heap.size, 0, none⟩ = some (.bool true) := blk_cell HF4.out rfl
  have xa : w4.cell? ⟨w.heap.size, 1, none⟩ = some (.int .i64 a) := blk_cell HO4.out rfl
  have yv : w4.cell? ⟨w1.heap.size, 1, none⟩ = some (.bool true) := blk_cell HF4.out rfl
  have xv : w4.cell? ⟨w.heap.size, 2, none⟩ = some (.int .u32 v) := blk_cell HO4.out rfl
  have yo : w4.cell? ⟨w1.heap.size, 2, none⟩ = some (.bool true) := blk_cell HF4.out rfl
  have xo : w4.cell? ⟨w.heap.size, 3, none⟩ = some (.int .u32 o) := blk_cell HO4.out rfl
  go_wp2_with fail
  refine (num_l _ M4 _ (((bs ++ enc (zz 3)) ++ enc (zz a)) ++ enc (zz v)) o _ HM4.out HL4.out (by simp only [List.length_append]; omega) (by omega) (by omega)).mono ?_
  rintro r w5 ⟨ao5, M5, c5, rfl, hM5, hL5, hb5⟩
  have HF5 := Hid.in (blk_step HF4.out hb5)
  have HO5 := Hid.in (blk_step HO4.out hb5)
  have HB5 := Hid.in (bstep HB4.out (Nat.le_refl _) hb5)
  have HM5 := Hid.in hM5
  have HL5 := Hid.in hL5
  clear hb5 hM5 hL5 xa xv xo ya yv yo HF4 HO4 HB4 HM4 HL4
  have ya : w5.cell? ⟨w1.heap.size, 0, none⟩ = some (.bool true) := blk_cell HF5.out rfl
  have xa : w5.cell? ⟨w.heap.size, 1, none⟩ = some (.int .i64 a) := blk_cell HO5.out rfl
  have yv : w5.cell? ⟨w1.heap.size, 1, none⟩ = some (.bool true) := blk_cell HF5.out rfl
  have xv : w5.cell? ⟨w.heap.size, 2, none⟩ = some (.int .u32 v) := blk_cell HO5.out rfl
  have yo : w5.cell? ⟨w1.heap.size, 2, none⟩ = some (.bool true) := blk_cell HF5.out rfl
  have xo : w5.cell? ⟨w.heap.size, 3, none⟩ = some (.int .u32 o) := blk_cell HO5.out rfl
  go_wp2
  go_ret
  have e : (((bs ++ enc (zz 3)) ++ enc (zz a)) ++ enc (zz v)) ++ enc (zz o) = bs ++ encO (3, a, v, o) := by rw [encO3]; simp
  exact ⟨ao5, M5, c5, rfl, e ▸ HM5.out, e ▸ HL5.out, HB5.out⟩

set_option maxRecDepth 20000 in
theorem gput_2 (ao : Option Addr) (N cap : Nat) (bs : List Nat) (a v o : Int) (w : World) (hN : N = bs.length) (hL : Lie w ao cap bs) (hlen : bs.length ≤ 140737488350000) (a0 : 0 ≤ a) (a1 : a < 128) (v0 : 0 ≤ v) (v1 : v < 4294967296) :
    Calls Tryd.prog 25 #[.slice ao N cap, .agg #[.int .i64 2, .int .i64 a, .int .u32 v, .int .u32 o]] w fun r w' => ∃ ao' M c', r = .returned (.slice ao' M c') ∧ M = (bs ++ encO (2, a, v, o)).length ∧ Lie w' ao' c' (bs ++ encO (2, a, v, o)) ∧ Below w.heap.size w w' := by
  have HL := Hid.in hL
  have HN := Hid.in hN
  clear hL hN
  have e0 := num_len 2 (by decide) (by decide)
  have ea := num_len a (by omega) (by omega)
  have ev := num_len v (by omega) (by omega)
  go_enter Tryd.func25, Tryd.ntmps25
  go_wp2_with fail
  refine (named_2 _).mono ?_
  rintro r w1 ⟨rfl, hb⟩
  have HO1 : Hid (w1.heap[w.heap.size]? = some (.cells #[.int .i64 2, .int .i64 a, .int .u32 v, .int .u32 o] 29 (0, 0))) := Hid.in (blk_step (heap_alloc_new _ _) hb)
  have HB1 := Hid.in (bstep (below_alloc w _) (Nat.le_refl _) hb)
  clear hb
  have x0 : w1.cell? ⟨w.heap.size, 0, none⟩ = some (.int .i64 2) := blk_cell HO1.out rfl
  have hlt : w.heap.size < w1.heap.size := blk_lt HO1.out
  go_wp2_with fail
  refine (num_l _ N _ bs 2 _ HN.out (HL.out.step (bstep HB1.out (Nat.le_refl _) (below_alloc _ _))) (by omega) (by decide) (by decide)).mono ?_
  rintro r w2 ⟨ao2, M2, c2, rfl, hM2, hL2, hb2⟩
  have HF2 : Hid (w2.heap[w1.heap.size]? = some (.cells #[.bool true, .bool true, .bool false] 67 (0, 0))) := Hid.in (blk_step (heap_alloc_new _ _) hb2)
  have HO2 := Hid.in (blk_step (blk_step HO1.out (below_alloc w1 (.cells #[.bool true, .bool true, .bool false] 67))) hb2)
  have HB2 := Hid.in (bstep (bstep HB1.out (Nat.le_refl _) (below_alloc _ _)) (Nat.le_refl _) hb2)
  have HM2 := Hid.in hM2
  have HL2 := Hid.in hL2
  clear hb2 hM2 hL2 x0 hlt HO1 HB1
  have ya : w2.cell? ⟨w1.heap.size, 0, none⟩ = some (.bool true) := blk_cell HF2.out rfl
  have xa : w2.cell? ⟨w.heap.size, 1, none⟩ = some (.int .i64 a) := blk_cell HO2.out rfl
  have yv : w2.cell? ⟨w1.heap.size, 1, none⟩ = some (.bool true) := blk_cell HF2.out rfl
  have xv : w2.cell? ⟨w.heap.size, 2, none⟩ = some (.int .u32 v) := blk_cell HO2.out rfl
  have yo : w2.cell? ⟨w1.heap.size, 2, none⟩ = some (.bool false) := blk_cell HF2.out rfl
  have xo : w2.cell? ⟨w.heap.size, 3, none⟩ = some (.int .u32 o) := blk_cell HO2.out rfl
  go_wp2_with fail
  refine (num_l _ M2 _ (bs ++ enc (zz 2)) a _ HM2.out HL2.out (by simp only [List.length_append]; omega) (by omega) (by omega)).mono ?_
  rintro r w3 ⟨ao3, M3, c3, rfl, hM3, hL3, hb3⟩
  have HF3 := Hid.in (blk_step HF2.out hb3)
  have HO3 := Hid.in (blk_step HO2.out hb3)
  have HB3 := Hid.in (bstep HB2.out (Nat.le_refl _) hb3)
  have HM3 := Hid.in hM3
  have HL3 := Hid.in hL3
  clear hb3 hM3 hL3 xa xv xo ya yv yo HF2 HO2 HB2 HM2 HL2
  have ya : w3.cell? ⟨w1.heap.size, 0, none⟩ = some (.bool true) := blk_cell HF3.out rfl
  have xa : w3.cell? ⟨w.heap.size, 1, none⟩ = some (.int .i64 a) := blk_cell HO3.out rfl
  have yv : w3.cell? ⟨w1.heap.size, 1, none⟩ = some (.bool true) := blk_cell HF3.out rfl
  have xv : w3.cell? ⟨w.heap.size, 2, none⟩ = some (.int .u32 v) := blk_cell HO3.out rfl
  have yo : w3.cell? ⟨w1.heap.size, 2, none⟩ = some (.bool false) := blk_cell HF3.out rfl
  have xo : w3.cell? ⟨w.heap.size, 3, none⟩ = some (.int .u32 o) := blk_cell HO3.out rfl
  go_wp2_with fail
  refine (num_l _ M3 _ ((bs ++ enc (zz 2)) ++ enc (zz a)) v _ HM3.out HL3.out (by simp only [List.length_append]; omega) (by omega) (by omega)).mono ?_
  rintro r w4 ⟨ao4, M4, c4, rfl, hM4, hL4, hb4⟩
  have HF4 := Hid.in (blk_step HF3.out hb4)
  have HO4 := Hid.in (blk_step HO3.out hb4)
  have HB4 := Hid.in (bstep HB3.out (Nat.le_refl _) hb4)
  have HM4 := Hid.in hM4
  have HL4 := Hid.in hL4
  clear hb4 hM4 hL4 xa xv xo ya yv yo HF3 HO3 HB3 HM3 HL3
  have ya : w4.cell? ⟨w1.heap.size, 0, none⟩ = some (.bool true) := blk_cell HF4.out rfl
  have xa : w4.cell? ⟨w.heap.size, 1, none⟩ = some (.int .i64 a) := blk_cell HO4.out rfl
  have yv : w4.cell? ⟨w1.heap.size, 1, none⟩ = some (.bool true) := blk_cell HF4.out rfl
  have xv : w4.cell? ⟨w.heap.size, 2, none⟩ = some (.int .u32 v) := blk_cell HO4.out rfl
  have yo : w4.cell? ⟨w1.heap.size, 2, none⟩ = some (.bool false) := blk_cell HF4.out rfl
  have xo : w4.cell? ⟨w.heap.size, 3, none⟩ = some (.int .u32 o) := blk_cell HO4.out rfl
  go_wp2
  go_ret
  have e : ((bs ++ enc (zz 2)) ++ enc (zz a)) ++ enc (zz v) = bs ++ encO (2, a, v, o) := by rw [encO2]; simp
  exact ⟨ao4, M4, c4, rfl, e ▸ HM4.out, e ▸ HL4.out, HB4.out⟩

set_option maxRecDepth 20000 in
theorem gput_1 (ao : Option Addr) (N cap : Nat) (bs : List Nat) (a v o : Int) (w : World) (hN : N = bs.length) (hL : Lie w ao cap bs) (hlen : bs.length ≤ 140737488350000) (a0 : 0 ≤ a) (a1 : a < 128) :
    Calls Tryd.prog 25 #[.slice ao N cap, .agg #[.int .i64 1, .int .i64 a, .int .u32 v, .int .u32 o]] w fun r w' => ∃ ao' M c', r = .returned (.slice ao' M c') ∧ M = (bs ++ encO (1, a, v, o)).length ∧ Lie w' ao' c' (bs ++ encO (1, a, v, o)) ∧ Below w.heap.size w w' := by
  have HL := Hid.in hL
  have HN := Hid.in hN
  clear hL hN
  have e0 := num_len 1 (by decide) (by decide)
  have ea := num_len a (by omega) (by omega)
  go_enter Tryd.func25, Tryd.ntmps25
  go_wp2_with fail
  refine (named_1 _).mono ?_
  rintro r w1 ⟨rfl, hb⟩
  have HO1 : Hid (w1.heap[w.heap.size]? = some (.cells #[.int .i64 1, .int .i64 a, .int .u32 v, .int .u32 o] 29 (0, 0))) := Hid.in (blk_step (heap_alloc_new _ _) hb)
  have HB1 := Hid.in (bstep (below_alloc w _) (Nat.le_refl _) hb)
  clear hb
  have x0 : w1.cell? ⟨w.heap.size, 0, none⟩ = some (.int .i64 1) := blk_cell HO1.out rfl
  have hlt : w.heap.size < w1.heap.size := blk_lt HO1.out
  go_wp2_with fail
  refine (num_l _ N _ bs 1 _ HN.out (HL.out.step (bstep HB1.out (Nat.le_refl _) (below_alloc _ _))) (by omega) (by decide) (by decide)).mono ?_
  rintro r w2 ⟨ao2, M2, c2, rfl, hM2, hL2, hb2⟩
  have HF2 : Hid (w2.heap[w1.heap.size]? = some (.cells #[.bool true, .bool false, .bool false] 67 (0, 0))) := Hid.in (blk_step (heap_alloc_new _ _) hb2)
  have HO2 := Hid.in (blk_step (blk_step HO1.out (below_alloc w1 (.cells #[.bool true, .bool false, .bool false] 67))) hb2)
  have HB2 := Hid.in (bstep (bstep HB1.out (Nat.le_refl _) (below_alloc _ _)) (Nat.le_refl _) hb2)
  have HM2 := Hid.in hM2
  have HL2 := Hid.in hL2
  clear hb2 hM2 hL2 x0 hlt HO1 HB1
  have ya : w2.cell? ⟨w1.heap.size, 0, none⟩ = some (.bool true) := blk_cell HF2.out rfl
  have xa : w2.cell? ⟨w.heap.size, 1, none⟩ = some (.int .i64 a) := blk_cell HO2.out rfl
  have yv : w2.cell? ⟨w1.heap.size, 1, none⟩ = some (.bool false) := blk_cell HF2.out rfl
  have xv : w2.cell? ⟨w.heap.size, 2, none⟩ = some (.int .u32 v) := blk_cell HO2.out rfl
  have yo : w2.cell? ⟨w1.heap.size, 2, none⟩ = some (.bool false) := blk_cell HF2.out rfl
  have xo : w2.cell? ⟨w.heap.size, 3, none⟩ = some (.int .u32 o) := blk_cell HO2.out rfl
  go_wp2_with fail
  refine (num_l _ M2 _ (bs ++ enc (zz 1)) a _ HM2.out HL2.out (by simp only [List.length_append]; omega) (by omega) (by omega)).mono ?_
  rintro r w3 ⟨ao3, M3, c3, rfl, hM3, hL3, hb3⟩
  have HF3 := Hid.in (blk_step HF2.out hb3)
  have HO3 := Hid.in (blk_step HO2.out hb3)
  have HB3 := Hid.in (bstep HB2.out (Nat.le_refl _) hb3)
  have HM3 := Hid.in hM3
  have HL3 := Hid.in hL3
  clear hb3 hM3 hL3 xa xv xo ya yv yo HF2 HO2 HB2 HM2 HL2
  have ya : w3.cell? ⟨w1.heap.size, 0, none⟩ = some (.bool true) := blk_cell HF3.out rfl
  have xa : w3.cell? ⟨w.heap.size, 1, none⟩ = some (.int .i64 a) := blk_cell HO3.out rfl
  have yv : w3.cell? ⟨w1.heap.size, 1, none⟩ = some (.bool false) := blk_cell HF3.out rfl
  have xv : w3.cell? ⟨w.heap.size, 2, none⟩ = some (.int .u32 v) := blk_cell HO3.out rfl
  have yo : w3.cell? ⟨w1.heap.size, 2, none⟩ = some (.bool false) := blk_cell HF3.out rfl
  have xo : w3.cell? ⟨w.heap.size, 3, none⟩ = some (.int .u32 o) := blk_cell HO3.out rfl
  go_wp2
  go_ret
  have e : (bs ++ enc (zz 1)) ++ enc (zz a) = bs ++ encO (1, a, v, o) := by rw [encO1]; simp
  exact ⟨ao3, M3, c3, rfl, e ▸ HM3.out, e ▸ HL3.out, HB3.out⟩

set_option maxRecDepth 20000 in
theorem gput_4 (ao : Option Addr) (N cap : Nat) (bs : List Nat) (a v o : Int) (w : World) (hN : N = bs.length) (hL : Lie w ao cap bs) (hlen : bs.length ≤ 140737488350000) :
    Calls Tryd.prog 25 #[.slice ao N cap, .agg #[.int .i64 4, .int .i64 a, .int .u32 v, .int .u32 o]] w fun r w' => ∃ ao' M c', r = .returned (.slice ao' M c') ∧ M = (bs ++ encO (4, a, v, o)).length ∧ Lie w' ao' c' (bs ++ encO (4, a, v, o)) ∧ Below w.heap.size w w' := by
  have HL := Hid.in hL
  have HN := Hid.in hN
  clear hL hN
  have e0 := num_len 4 (by decide) (by decide)
  go_enter Tryd.func25, Tryd.ntmps25
  go_wp2_with fail
  refine (named_4 _).mono ?_
  rintro r w1 ⟨rfl, hb⟩
  have HO1 : Hid (w1.heap[w.heap.size]? = some (.cells #[.int .i64 4, .int .i64 a, .int .u32 v, .int .u32 o] 29 (0, 0))) := Hid.in (blk_step (heap_alloc_new _ _) hb)
  have HB1 := Hid.in (bstep (below_alloc w _) (Nat.le_refl _) hb)
  clear hb
  have x0 : w1.cell? ⟨w.heap.size, 0, none⟩ = some (.int .i64 4) := blk_cell HO1.out rfl
  have hlt : w.heap.size < w1.heap.size := blk_lt HO1.out
  go_wp2_with fail
  refine (num_l _ N _ bs 4 _ HN.out (HL.out.step (bstep HB1.out (Nat.le_refl _) (below_alloc _ _))) (by omega) (by decide) (by decide)).mono ?_
  rintro r w2 ⟨ao2, M2, c2, rfl, hM2, hL2, hb2⟩
  have HF2 : Hid (w2.heap[w1.heap.size]? = some (.cells #[.bool false, .bool false, .bool false] 67 (0, 0))) := Hid.in (blk_step (heap_alloc_new _ _) hb2)
  have HO2 := Hid.in (blk_step (blk_step HO1.out (below_alloc w1 (.cells #[.bool false, .bool false, .bool false] 67))) hb2)
  have HB2 := Hid.in (bstep (bstep HB1.out (Nat.le_refl _) (below_alloc _ _)) (Nat.le_refl _) hb2)
  have HM2 := Hid.in hM2
  have HL2 := Hid.in hL2
  clear hb2 hM2 hL2 x0 hlt HO1 HB1
  have ya : w2.cell? ⟨w1.heap.size, 0, none⟩ = some (.bool false) := blk_cell HF2.out rfl
  have xa : w2.cell? ⟨w.heap.size, 1, none⟩ = some (.int .i64 a) := blk_cell HO2.out rfl
  have yv : w2.cell? ⟨w1.heap.size, 1, none⟩ = some (.bool false) := blk_cell HF2.out rfl
  have xv : w2.cell? ⟨w.heap.size, 2, none⟩ = some (.int .u32 v) := blk_cell HO2.out rfl
  have yo : w2.cell? ⟨w1.heap.size, 2, none⟩ = some (.bool false) := blk_cell HF2.out rfl
  have xo : w2.cell? ⟨w.heap.size, 3, none⟩ = some (.int .u32 o) := blk_cell HO2.out rfl
  go_wp2
  go_ret
  have e : bs ++ enc (zz 4) = bs ++ encO (4, a, v, o) := by rw [encO4]
  exact ⟨ao2, M2, c2, rfl, e ▸ HM2.out, e ▸ HL2.out, HB2.out⟩

/-- put, of a right operation. -/
theorem gput_any (ao : Option Addr) (N cap : Nat) (bs : List Nat) (k a v o n : Int) (w : World) (hN : N = bs.length) (hL : Lie w ao cap bs) (hlen : bs.length ≤ 140737488350000) (hr : rt (k, a, v, o) n = true) (hx : O32 (k, a, v, o)) :
    Calls Tryd.prog 25 #[.slice ao N cap, .agg #[.int .i64 k, .int .i64 a, .int .u32 v, .int .u32 o]] w fun r w' => ∃ ao' M c', r = .returned (.slice ao' M c') ∧ M = (bs ++ encO (k, a, v, o)).length ∧ Lie w' ao' c' (bs ++ encO (k, a, v, o)) ∧ Below w.heap.size w w' := by
  obtain ⟨g1, g2, g3, g4⟩ := hx
  obtain ⟨hn, h⟩ := (rt_iff _ n).1 hr
  simp only at g1 g2 g3 g4 h
  rcases h with h | h | h | h
  · obtain ⟨rfl, _⟩ := h
    exact gput_4 ao N cap bs a v o w hN hL hlen
  · obtain ⟨rfl, h⟩ := h
    exact gput_1 ao N cap bs a v o w hN hL hlen (by omega) (by omega)
  · obtain ⟨rfl, h⟩ := h
    exact gput_2 ao N cap bs a v o w hN hL hlen (by omega) (by omega) g1 g2
  · obtain ⟨rfl, h⟩ := h
    exact gput_3 ao N cap bs a v o w hN hL hlen (by omega) (by omega) g1 g2 g3 g4

end Go.Proofs.YtbanihjjeicdaaaDoor

/- DERIVED of the program: the document's own Put by its contract. Own work. -/
import Derived.Test.YtgepfbaojogccaaDoorSgQS
import Derived.Test.YtgepfbaojogccaaDoorPkH
namespace Go.Proofs.YtgepfbaojogccaaDoor
open Go.RowKit Go.Extern.Stop Go.Stop Go.Extern

theorem Own.lower {w : World} {B B' n cap : Nat} {ao : Option Addr} {bs : List Nat} (h : Own w B ao n cap bs) (hB : B' ≤ B) : Own w B' ao n cap bs := by
  obtain ⟨h1, h2⟩ := h
  refine ⟨h1, ?_⟩
  rcases h2 with h2 | ⟨g, cap', cur, e, hg, r⟩
  · exact .inl h2
  · exact .inr ⟨g, cap', cur, e, Nat.le_trans hB hg, r⟩
theorem qnum_o (ao : Option Addr) (N cap : Nat) (bs : List Nat) (n : Int) (w : World) (hN : N = bs.length) (hL : Lie w ao cap bs) (hlen : bs.length ≤ 1000) (h0 : -9223372036854775808 ≤ n) (h1 : n ≤ 9223372036854775807) :
    Calls Tryd.prog 34 #[.slice ao N cap, .int .i64 n] w fun r w' => ∃ ao' M c', r = .returned (.slice ao' M c') ∧ M = (bs ++ enc (zz n)).length ∧ Own w' w.heap.size ao' M c' (bs ++ enc (zz n)) ∧ Below w.heap.size w w' := by
  subst hN
  refine (refNum_any ao cap bs n w hL (by omega) h0 h1).mono ?_
  rintro r w' ⟨ao', c, rfl, hO, hb⟩
  exact ⟨ao', _, c, rfl, by rw [List.length_append], hO, hb⟩

set_option maxHeartbeats 6400000 in
set_option maxRecDepth 20000 in
theorem qsPut_U3 (w : World) (c l t o e w_ v d0 d1 d2 d3 : Int) (h : Bool) (h32 : M32 (3, c, l, t, o, e, w_, v, d0, d1, d2, d3, h)) (h64 : M64 (3, c, l, t, o, e, w_, v, d0, d1, d2, d3, h)) (hr : rtP (3, c, l, t, o, e, w_, v, d0, d1, d2, d3, h)) :
    Calls Tryd.prog 14 #[.agg #[.int .i64 3, .int .i64 c, .int .i64 l, .int .i64 t, .int .i64 o, .int .i64 e, .int .i64 w_, .int .u32 v, .int .u32 d0, .int .u32 d1, .int .u32 d2, .int .u32 d3, .bool h]] w fun r w' => ∃ ao N cap, r = .returned (.slice ao N cap) ∧ N = (encM (3, c, l, t, o, e, w_, v, d0, d1, d2, d3, h)).length ∧ Own w' w.heap.size ao N cap (encM (3, c, l, t, o, e, w_, v, d0, d1, d2, d3, h)) ∧ Below w.heap.size w w' := by
  have HEN : Hid (encM (3, c, l, t, o, e, w_, v, d0, d1, d2, d3, h) = ((((([] ++ enc (zz 3)) ++ enc (zz c)) ++ enc (zz l)) ++ enc (zz w_)) ++ enc (zz v))) := Hid.in (by
    have h1 := mask_eq _ hr
    rw [← h1]
    rw [show maskM (3, c, l, t, o, e, w_, v, d0, d1, d2, d3, h) = (3, c, l, 0, 0, 0, w_, v, 0, 0, 0, 0, false) from rfl]
    exact encM_U (by simp))
  rw [HEN.out]
  have b64 := h64
  have b32 := h32
  simp only [M64] at b64
  simp only [M32] at b32
  obtain ⟨bk, bc, bl, bt, bo, be, bw⟩ := b64
  obtain ⟨⟨bv0, bv1⟩, ⟨bd00, bd01⟩, ⟨bd10, bd11⟩, ⟨bd20, bd21⟩, bd30, bd31⟩ := b32
  have wrv : IntKind.i64.wrap v = v := by rw [IntKind.wrap_i64]; omega
  have n0 := num_len (3 : Int) (by omega) (by omega)
  have n1 := num_len c (by omega) (by omega)
  have n2 := num_len l (by omega) (by omega)
  have n3 := num_len w_ (by omega) (by omega)
  have n4 := num_len v (by omega) (by omega)
  have hrr := fun W => qsRight_any (3, c, l, t, o, e, w_, v, d0, d1, d2, d3, h) W h64
  rw [(rtB_iff _).2 hr] at hrr
  simp only [mv] at hrr
  have HRR := Hid.in hrr
  clear hrr hr
  have HS0 : Hid (SMA w #[.int .i64 3, .int .i64 c, .int .i64 l, .int .i64 t, .int .i64 o, .int .i64 e, .int .i64 w_, .int .u32 v, .int .u32 d0, .int .u32 d1, .int .u32 d2, .int .u32 d3, .bool h] (w.alloc (.cells #[.int .i64 3, .int .i64 c, .int .i64 l, .int .i64 t, .int .i64 o, .int .i64 e, .int .i64 w_, .int .u32 v, .int .u32 d0, .int .u32 d1, .int .u32 d2, .int .u32 d3, .bool h] 28))) := Hid.in ⟨heap_alloc_new _ _, below_alloc _ _⟩
  have x0 : (w.alloc (.cells #[.int .i64 3, .int .i64 c, .int .i64 l, .int .i64 t, .int .i64 o, .int .i64 e, .int .i64 w_, .int .u32 v, .int .u32 d0, .int .u32 d1, .int .u32 d2, .int .u32 d3, .bool h] 28)).cell? ⟨w.heap.size, 0, none⟩ = some (.int .i64 3) := blk_cell HS0.out.bA rfl
  have x1 : (w.alloc (.cells #[.int .i64 3, .int .i64 c, .int .i64 l, .int .i64 t, .int .i64 o, .int .i64 e, .int .i64 w_, .int .u32 v, .int .u32 d0, .int .u32 d1, .int .u32 d2, .int .u32 d3, .bool h] 28)).cell? ⟨w.heap.size, 1, none⟩ = some (.int .i64 c) := blk_cell HS0.out.bA rfl
  have x2 : (w.alloc (.cells #[.int .i64 3, .int .i64 c, .int .i64 l, .int .i64 t, .int .i64 o, .int .i64 e, .int .i64 w_, .int .u32 v, .int .u32 d0, .int .u32 d1, .int .u32 d2, .int .u32 d3, .bool h] 28)).cell? ⟨w.heap.size, 2, none⟩ = some (.int .i64 l) := blk_cell HS0.out.bA rfl
  have x3 : (w.alloc (.cells #[.int .i64 3, .int .i64 c, .int .i64 l, .int .i64 t, .int .i64 o, .int .i64 e, .int .i64 w_, .int .u32 v, .int .u32 d0, .int .u32 d1, .int .u32 d2, .int .u32 d3, .bool h] 28)).cell? ⟨w.heap.size, 3, none⟩ = some (.int .i64 t) := blk_cell HS0.out.bA rfl
  have x4 : (w.alloc (.cells #[.int .i64 3, .int .i64 c, .int .i64 l, .int .i64 t, .int .i64 o, .int .i64 e, .int .i64 w_, .int .u32 v, .int .u32 d0, .int .u32 d1, .int .u32 d2, .int .u32 d3, .bool h] 28)).cell? ⟨w.heap.size, 4, none⟩ = some (.int .i64 o) := blk_cell HS0.out.bA rfl
  have x5 : (w.alloc (.cells #[.int .i64 3, .int .i64 c, .int .i64 l, .int .i64 t, .int .i64 o, .int .i64 e, .int .i64 w_, .int .u32 v, .int .u32 d0, .int .u32 d1, .int .u32 d2, .int .u32 d3, .bool h] 28)).cell? ⟨w.heap.size, 5, none⟩ = some (.int .i64 e) := blk_cell HS0.out.bA rfl
  have x6 : (w.alloc (.cells #[.int .i64 3, .int .i64 c, .int .i64 l, .int .i64 t, .int .i64 o, .int .i64 e, .int .i64 w_, .int .u32 v, .int .u32 d0, .int .u32 d1, .int .u32 d2, .int .u32 d3, .bool h] 28)).cell? ⟨w.heap.size, 6, none⟩ = some (.int .i64 w_) := blk_cell HS0.out.bA rfl
  have x7 : (w.alloc (.cells #[.int .i64 3, .int .i64 c, .int .i64 l, .int .i64 t, .int .i64 o, .int .i64 e, .int .i64 w_, .int .u32 v, .int .u32 d0, .int .u32 d1, .int .u32 d2, .int .u32 d3, .bool h] 28)).cell? ⟨w.heap.size, 7, none⟩ = some (.int .u32 v) := blk_cell HS0.out.bA rfl
  have x8 : (w.alloc (.cells #[.int .i64 3, .int .i64 c, .int .i64 l, .int .i64 t, .int .i64 o, .int .i64 e, .int .i64 w_, .int .u32 v, .int .u32 d0, .int .u32 d1, .int .u32 d2, .int .u32 d3, .bool h] 28)).cell? ⟨w.heap.size, 8, none⟩ = some (.int .u32 d0) := blk_cell HS0.out.bA rfl
  have x9 : (w.alloc (.cells #[.int .i64 3, .int .i64 c, .int .i64 l, .int .i64 t, .int .i64 o, .int .i64 e, .int .i64 w_, .int .u32 v, .int .u32 d0, .int .u32 d1, .int .u32 d2, .int .u32 d3, .bool h] 28)).cell? ⟨w.heap.size, 9, none⟩ = some (.int .u32 d1) := blk_cell HS0.out.bA rfl
  have x10 : (w.alloc (.cells #[.int .i64 3, .int .i64 c, .int .i64 l, .int .i64 t, .int .i64 o, .int .i64 e, .int .i64 w_, .int .u32 v, .int .u32 d0, .int .u32 d1, .int .u32 d2, .int .u32 d3, .bool h] 28)).cell? ⟨w.heap.size, 10, none⟩ = some (.int .u32 d2) := blk_cell HS0.out.bA rfl
  have x11 : (w.alloc (.cells #[.int .i64 3, .int .i64 c, .int .i64 l, .int .i64 t, .int .i64 o, .int .i64 e, .int .i64 w_, .int .u32 v, .int .u32 d0, .int .u32 d1, .int .u32 d2, .int .u32 d3, .bool h] 28)).cell? ⟨w.heap.size, 11, none⟩ = some (.int .u32 d3) := blk_cell HS0.out.bA rfl
  have x12 : (w.alloc (.cells #[.int .i64 3, .int .i64 c, .int .i64 l, .int .i64 t, .int .i64 o, .int .i64 e, .int .i64 w_, .int .u32 v, .int .u32 d0, .int .u32 d1, .int .u32 d2, .int .u32 d3, .bool h] 28)).cell? ⟨w.heap.size, 12, none⟩ = some (.bool h) := blk_cell HS0.out.bA rfl
  go_enter Tryd.func14, Tryd.ntmps14
  go_wp2_with fail
  refine (HRR.out _).mono ?_
  rintro r w1 ⟨rfl, hb⟩
  have HS := Hid.in (HS0.out.step hb)
  clear hb HS0 HRR
  clear x0 x1 x2 x3 x4 x5 x6 x7 x8 x9 x10 x11 x12
  have HFA : Hid (∀ W, SMA w #[.int .i64 3, .int .i64 c, .int .i64 l, .int .i64 t, .int .i64 o, .int .i64 e, .int .i64 w_, .int .u32 v, .int .u32 d0, .int .u32 d1, .int .u32 d2, .int .u32 d3, .bool h] W → W.cell? ⟨w.heap.size, 0, none⟩ = some (.int .i64 3) ∧ W.cell? ⟨w.heap.size, 1, none⟩ = some (.int .i64 c) ∧ W.cell? ⟨w.heap.size, 2, none⟩ = some (.int .i64 l) ∧ W.cell? ⟨w.heap.size, 3, none⟩ = some (.int .i64 t) ∧ W.cell? ⟨w.heap.size, 4, none⟩ = some (.int .i64 o) ∧ W.cell? ⟨w.heap.size, 5, none⟩ = some (.int .i64 e) ∧ W.cell? ⟨w.heap.size, 6, none⟩ = some (.int .i64 w_) ∧ W.cell? ⟨w.heap.size, 7, none⟩ = some (.int .u32 v) ∧ W.cell? ⟨w.heap.size, 8, none⟩ = some (.int .u32 d0) ∧ W.cell? ⟨w.heap.size, 9, none⟩ = some (.int .u32 d1) ∧ W.cell? ⟨w.heap.size, 10, none⟩ = some (.int .u32 d2) ∧ W.cell? ⟨w.heap.size, 11, none⟩ = some (.int .u32 d3) ∧ W.cell? ⟨w.heap.size, 12, none⟩ = some (.bool h)) := Hid.in (fun W h => ⟨blk_cell h.bA rfl, blk_cell h.bA rfl, blk_cell h.bA rfl, blk_cell h.bA rfl, blk_cell h.bA rfl, blk_cell h.bA rfl, blk_cell h.bA rfl, blk_cell h.bA rfl, blk_cell h.bA rfl, blk_cell h.bA rfl, blk_cell h.bA rfl, blk_cell h.bA rfl, blk_cell h.bA rfl⟩)
  have HO : Hid (Lie w1 none 0 []) := Hid.in (Lie.nil _)
  have HM : Hid (0 = ([] : List Nat).length) := Hid.in rfl
  go_upto_region 3 with fail
  have HSd := Hid.in (HS.out.step (Below.refl _ _).drew)
  have HOd := Hid.in (HO.out.step (Below.refl _ _).drew)
  clear HS HO
  have HS := HSd
  have HO := HOd
  clear HSd HOd
  refine wp_region_but (SMA w #[.int .i64 3, .int .i64 c, .int .i64 l, .int .i64 t, .int .i64 o, .int .i64 e, .int .i64 w_, .int .u32 v, .int .u32 d0, .int .u32 d1, .int .u32 d2, .int .u32 d3, .bool h]) 9 (by kernel_rfl) ?_
  generalize hX : w1.drew = X3 at *
  clear hX
  have HW1 : True := trivial
  refine wpBut_take (i := 0) (v := ?_) rfl (by kernel_rfl) (by kernel_rfl) (by exact fun _ _ _ h => h) HS.out (Or.inl ⟨by rfl, ?_⟩) ?_
  case refine_2 => (intro W _; go_simp; try with_reducible rfl)
  simp only [Act.put, List.setIfInBounds_toArray, List.set_cons_zero, List.set_cons_succ]
  refine wpBut_take (i := 1) (v := ?_) rfl (by kernel_rfl) (by kernel_rfl) (by exact fun _ _ _ h => h) HS.out (Or.inl ⟨by rfl, ?_⟩) ?_
  case refine_2 => (intro W hSw; obtain ⟨s0, s1, s2, s3, s4, s5, s6, s7, s8, s9, s10, s11, s12⟩ := HFA.out W hSw; go_simp; try with_reducible rfl)
  simp only [Act.put, List.setIfInBounds_toArray, List.set_cons_zero, List.set_cons_succ]
  refine wpBut_take (i := 3) (v := ?_) rfl (by kernel_rfl) (by kernel_rfl) (by exact fun _ _ _ h => h) HS.out (Or.inl ⟨by rfl, ?_⟩) ?_
  case refine_2 => (intro W _; go_simp; try with_reducible rfl)
  simp only [Act.put, List.setIfInBounds_toArray, List.set_cons_zero, List.set_cons_succ]
  refine wpBut_take (i := 4) (v := ?_) rfl (by kernel_rfl) (by kernel_rfl) (by exact fun _ _ _ h => h) HS.out (Or.inl ⟨by rfl, ?_⟩) ?_
  case refine_2 => (intro W hSw; obtain ⟨s0, s1, s2, s3, s4, s5, s6, s7, s8, s9, s10, s11, s12⟩ := HFA.out W hSw; go_simp; try with_reducible rfl)
  simp only [Act.put, List.setIfInBounds_toArray, List.set_cons_zero, List.set_cons_succ]
  refine wpBut_take (i := 6) (v := ?_) rfl (by kernel_rfl) (by kernel_rfl) (by exact fun _ _ _ h => h) HS.out (Or.inl ⟨by rfl, ?_⟩) ?_
  case refine_2 => (intro W _; go_simp; try with_reducible rfl)
  simp only [Act.put, List.setIfInBounds_toArray, List.set_cons_zero, List.set_cons_succ]
  refine wpBut_take (i := 7) (v := ?_) rfl (by kernel_rfl) (by kernel_rfl) (by exact fun _ _ _ h => h) HS.out (Or.inl ⟨by rfl, ?_⟩) ?_
  case refine_2 => (intro W hSw; obtain ⟨s0, s1, s2, s3, s4, s5, s6, s7, s8, s9, s10, s11, s12⟩ := HFA.out W hSw; go_simp; try with_reducible rfl)
  simp only [Act.put, List.setIfInBounds_toArray, List.set_cons_zero, List.set_cons_succ]
  refine wpBut_one (i := 2) rfl (by kernel_rfl) (fun K HK => ?_)
  go_simp
  refine (qnum_o none 0 0 [] 3 _ HM.out HO.out (by first | exact Nat.zero_le _ | (simp only [List.length_append, List.length_nil]; omega)) (by omega) (by omega)).mono ?_
  rintro r v2 ⟨a2, M2, c2, rfl, hM, hO, hb⟩
  have HSn := Hid.in (HS.out.step hb)
  have HMn := Hid.in hM
  have HOn := Hid.in hO.lie
  have HW2 := Hid.in (hO.lower (B' := w.heap.size) (by have := HS.out.be.size; omega))
  clear hb hM hO HM HO
  clear HW1
  refine HK.out _ _ (fun _ => HSn.out) ?_
  clear HK K HS
  have HS := HSn
  have HM := HMn
  have HO := HOn
  clear HSn HMn HOn
  try simp only [Act.put, List.setIfInBounds_toArray, List.set_cons_zero, List.set_cons_succ]
  refine wpBut_one (i := 5) rfl (by kernel_rfl) (fun K HK => ?_)
  go_simp
  refine (qnum_o a2 M2 c2 ([] ++ enc (zz 3)) c _ HM.out HO.out (by first | exact Nat.zero_le _ | (simp only [List.length_append, List.length_nil]; omega)) (by omega) (by omega)).mono ?_
  rintro r v3 ⟨a3, M3, c3, rfl, hM, hO, hb⟩
  have HSn := Hid.in (HS.out.step hb)
  have HMn := Hid.in hM
  have HOn := Hid.in hO.lie
  have HW3 := Hid.in (hO.lower (B' := w.heap.size) (by have := HS.out.be.size; omega))
  clear hb hM hO HM HO
  clear HW2
  refine HK.out _ _ (fun _ => HSn.out) ?_
  clear HK K HS
  have HS := HSn
  have HM := HMn
  have HO := HOn
  clear HSn HMn HOn
  try simp only [Act.put, List.setIfInBounds_toArray, List.set_cons_zero, List.set_cons_succ]
  refine wpBut_one (i := 8) rfl (by kernel_rfl) (fun K HK => ?_)
  go_simp
  refine (qnum_o a3 M3 c3 (([] ++ enc (zz 3)) ++ enc (zz c)) l _ HM.out HO.out (by first | exact Nat.zero_le _ | (simp only [List.length_append, List.length_nil]; omega)) (by omega) (by omega)).mono ?_
  rintro r v4 ⟨a4, M4, c4, rfl, hM, hO, hb⟩
  have HSn := Hid.in (HS.out.step hb)
  have HMn := Hid.in hM
  have HOn := Hid.in hO.lie
  have HW4 := Hid.in (hO.lower (B' := w.heap.size) (by have := HS.out.be.size; omega))
  clear hb hM hO HM HO
  clear HW3
  refine HK.out _ _ (fun _ => HSn.out) ?_
  clear HK K HS
  have HS := HSn
  have HM := HMn
  have HO := HOn
  clear HSn HMn HOn
  try simp only [Act.put, List.setIfInBounds_toArray, List.set_cons_zero, List.set_cons_succ]
  refine wpBut_one (i := 9) rfl (by kernel_rfl) (fun K HK => ?_)
  go_simp
  refine HK.out _ _ (fun h => absurd rfl h) ?_
  clear HK K
  try simp only [Act.put, List.setIfInBounds_toArray, List.set_cons_zero, List.set_cons_succ]
  refine wpBut_done (by kernel_rfl) ?_ _
  have x0 : v4.cell? ⟨w.heap.size, 0, none⟩ = some (.int .i64 3) := blk_cell HS.out.bA rfl
  go_upto_region 24 with fail
  have HSd := Hid.in (HS.out.step (Below.refl _ _).drew)
  have HOd := Hid.in (HO.out.step (Below.refl _ _).drew)
  clear HS HO
  have HS := HSd
  have HO := HOd
  clear HSd HOd
  refine wp_region_but (SMA w #[.int .i64 3, .int .i64 c, .int .i64 l, .int .i64 t, .int .i64 o, .int .i64 e, .int .i64 w_, .int .u32 v, .int .u32 d0, .int .u32 d1, .int .u32 d2, .int .u32 d3, .bool h]) 8 (by kernel_rfl) ?_
  generalize hX : v4.drew = X24 at *
  clear hX
  clear HW4
  have HW5 : True := trivial
  clear x0
  refine wpBut_take (i := 0) (v := ?_) rfl (by kernel_rfl) (by kernel_rfl) (by exact fun _ _ _ h => h) HS.out (Or.inl ⟨by rfl, ?_⟩) ?_
  case refine_2 => (intro W _; go_simp; try with_reducible rfl)
  simp only [Act.put, List.setIfInBounds_toArray, List.set_cons_zero, List.set_cons_succ]
  refine wpBut_take (i := 1) (v := ?_) rfl (by kernel_rfl) (by kernel_rfl) (by exact fun _ _ _ h => h) HS.out (Or.inl ⟨by rfl, ?_⟩) ?_
  case refine_2 => (intro W hSw; obtain ⟨s0, s1, s2, s3, s4, s5, s6, s7, s8, s9, s10, s11, s12⟩ := HFA.out W hSw; go_simp; try with_reducible rfl)
  simp only [Act.put, List.setIfInBounds_toArray, List.set_cons_zero, List.set_cons_succ]
  refine wpBut_take (i := 2) (v := ?_) rfl (by kernel_rfl) (by kernel_rfl) (by exact fun _ _ _ h => h) HS.out (Or.inl ⟨by rfl, ?_⟩) ?_
  case refine_2 => (intro W hSw; obtain ⟨s0, s1, s2, s3, s4, s5, s6, s7, s8, s9, s10, s11, s12⟩ := HFA.out W hSw; go_simp; try with_reducible rfl)
  simp only [Act.put, List.setIfInBounds_toArray, List.set_cons_zero, List.set_cons_succ]
  refine wpBut_take (i := 4) (v := ?_) rfl (by kernel_rfl) (by kernel_rfl) (by exact fun _ _ _ h => h) HS.out (Or.inl ⟨by rfl, ?_⟩) ?_
  case refine_2 => (intro W _; go_simp; try with_reducible rfl)
  simp only [Act.put, List.setIfInBounds_toArray, List.set_cons_zero, List.set_cons_succ]
  refine wpBut_take (i := 5) (v := ?_) rfl (by kernel_rfl) (by kernel_rfl) (by exact fun _ _ _ h => h) HS.out (Or.inl ⟨by rfl, ?_⟩) ?_
  case refine_2 => (intro W hSw; obtain ⟨s0, s1, s2, s3, s4, s5, s6, s7, s8, s9, s10, s11, s12⟩ := HFA.out W hSw; go_simp; try with_reducible rfl)
  simp only [Act.put, List.setIfInBounds_toArray, List.set_cons_zero, List.set_cons_succ]
  refine wpBut_take (i := 6) (v := ?_) rfl (by kernel_rfl) (by kernel_rfl) (by exact fun _ _ _ h => h) HS.out (Or.inl ⟨by rfl, ?_⟩) ?_
  case refine_2 => (intro W _; go_simp; try with_reducible rfl)
  simp only [Act.put, List.setIfInBounds_toArray, List.set_cons_zero, List.set_cons_succ]
  refine wpBut_one (i := 3) rfl (by kernel_rfl) (fun K HK => ?_)
  go_simp
  refine (qnum_o a4 M4 c4 ((([] ++ enc (zz 3)) ++ enc (zz c)) ++ enc (zz l)) w_ _ HM.out HO.out (by first | exact Nat.zero_le _ | (simp only [List.length_append, List.length_nil]; omega)) (by omega) (by omega)).mono ?_
  rintro r v6 ⟨a6, M6, c6, rfl, hM, hO, hb⟩
  have HSn := Hid.in (HS.out.step hb)
  have HMn := Hid.in hM
  have HOn := Hid.in hO.lie
  have HW6 := Hid.in (hO.lower (B' := w.heap.size) (by have := HS.out.be.size; omega))
  clear hb hM hO HM HO
  clear HW5
  refine HK.out _ _ (fun _ => HSn.out) ?_
  clear HK K HS
  have HS := HSn
  have HM := HMn
  have HO := HOn
  clear HSn HMn HOn
  try simp only [Act.put, List.setIfInBounds_toArray, List.set_cons_zero, List.set_cons_succ]
  refine wpBut_one (i := 7) rfl (by kernel_rfl) (fun K HK => ?_)
  go_simp
  refine (qnum_o a6 M6 c6 (((([] ++ enc (zz 3)) ++ enc (zz c)) ++ enc (zz l)) ++ enc (zz w_)) v _ HM.out HO.out (by first | exact Nat.zero_le _ | (simp only [List.length_append, List.length_nil]; omega)) (by omega) (by omega)).mono ?_
  rintro r v7 ⟨a7, M7, c7, rfl, hM, hO, hb⟩
  have HSn := Hid.in (HS.out.step hb)
  have HMn := Hid.in hM
  have HOn := Hid.in hO.lie
  have HW7 := Hid.in (hO.lower (B' := w.heap.size) (by have := HS.out.be.size; omega))
  clear hb hM hO HM HO
  clear HW6
  refine HK.out _ _ (fun _ => HSn.out) ?_
  clear HK K HS
  have HS := HSn
  have HM := HMn
  have HO := HOn
  clear HSn HMn HOn
  try simp only [Act.put, List.setIfInBounds_toArray, List.set_cons_zero, List.set_cons_succ]
  refine wpBut_one (i := 8) rfl (by kernel_rfl) (fun K HK => ?_)
  go_simp
  refine HK.out _ _ (fun h => absurd rfl h) ?_
  clear HK K
  try simp only [Act.put, List.setIfInBounds_toArray, List.set_cons_zero, List.set_cons_succ]
  refine wpBut_done (by kernel_rfl) ?_ _
  go_wp2
  go_ret
  exact ⟨_, _, _, rfl, HM.out, HW7.out, HS.out.be⟩

set_option maxHeartbeats 6400000 in
set_option maxRecDepth 20000 in
theorem qsPut_U8 (w : World) (c l t o e w_ v d0 d1 d2 d3 : Int) (h : Bool) (h32 : M32 (8, c, l, t, o, e, w_, v, d0, d1, d2, d3, h)) (h64 : M64 (8, c, l, t, o, e, w_, v, d0, d1, d2, d3, h)) (hr : rtP (8, c, l, t, o, e, w_, v, d0, d1, d2, d3, h)) :
    Calls Tryd.prog 14 #[.agg #[.int .i64 8, .int .i64 c, .int .i64 l, .int .i64 t, .int .i64 o, .int .i64 e, .int .i64 w_, .int .u32 v, .int .u32 d0, .int .u32 d1, .int .u32 d2, .int .u32 d3, .bool h]] w fun r w' => ∃ ao N cap, r = .returned (.slice ao N cap) ∧ N = (encM (8, c, l, t, o, e, w_, v, d0, d1, d2, d3, h)).length ∧ Own w' w.heap.size ao N cap (encM (8, c, l, t, o, e, w_, v, d0, d1, d2, d3, h)) ∧ Below w.heap.size w w' := by
  have HEN : Hid (encM (8, c, l, t, o, e, w_, v, d0, d1, d2, d3, h) = ((((([] ++ enc (zz 8)) ++ enc (zz c)) ++ enc (zz l)) ++ enc (zz w_)) ++ enc (zz v))) := Hid.in (by
    have h1 := mask_eq _ hr
    rw [← h1]
    rw [show maskM (8, c, l, t, o, e, w_, v, d0, d1, d2, d3, h) = (8, c, l, 0, 0, 0, w_, v, 0, 0, 0, 0, false) from rfl]
    exact encM_U (by simp))
  rw [HEN.out]
  have b64 := h64
  have b32 := h32
  simp only [M64] at b64
  simp only [M32] at b32
  obtain ⟨bk, bc, bl, bt, bo, be, bw⟩ := b64
  obtain ⟨⟨bv0, bv1⟩, ⟨bd00, bd01⟩, ⟨bd10, bd11⟩, ⟨bd20, bd21⟩, bd30, bd31⟩ := b32
  have wrv : IntKind.i64.wrap v = v := by rw [IntKind.wrap_i64]; omega
  have n0 := num_len (8 : Int) (by omega) (by omega)
  have n1 := num_len c (by omega) (by omega)
  have n2 := num_len l (by omega) (by omega)
  have n3 := num_len w_ (by omega) (by omega)
  have n4 := num_len v (by omega) (by omega)
  have hrr := fun W => qsRight_any (8, c, l, t, o, e, w_, v, d0, d1, d2, d3, h) W h64
  rw [(rtB_iff _).2 hr] at hrr
  simp only [mv] at hrr
  have HRR := Hid.in hrr
  clear hrr hr
  have HS0 : Hid (SMA w #[.int .i64 8, .int .i64 c, .int .i64 l, .int .i64 t, .int .i64 o, .int .i64 e, .int .i64 w_, .int .u32 v, .int .u32 d0, .int .u32 d1, .int .u32 d2, .int .u32 d3, .bool h] (w.alloc (.cells #[.int .i64 8, .int .i64 c, .int .i64 l, .int .i64 t, .int .i64 o, .int .i64 e, .int .i64 w_, .int .u32 v, .int .u32 d0, .int .u32 d1, .int .u32 d2, .int .u32 d3, .bool h] 28))) := Hid.in ⟨heap_alloc_new _ _, below_alloc _ _⟩
  have x0 : (w.alloc (.cells #[.int .i64 8, .int .i64 c, .int .i64 l, .int .i64 t, .int .i64 o, .int .i64 e, .int .i64 w_, .int .u32 v, .int .u32 d0, .int .u32 d1, .int .u32 d2, .int .u32 d3, .bool h] 28)).cell? ⟨w.heap.size, 0, none⟩ = some (.int .i64 8) := blk_cell HS0.out.bA rfl
  have x1 : (w.alloc (.cells #[.int .i64 8, .int .i64 c, .int .i64 l, .int .i64 t, .int .i64 o, .int .i64 e, .int .i64 w_, .int .u32 v, .int .u32 d0, .int .u32 d1, .int .u32 d2, .int .u32 d3, .bool h] 28)).cell? ⟨w.heap.size, 1, none⟩ = some (.int .i64 c) := blk_cell HS0.out.bA rfl
  have x2 : (w.alloc (.cells #[.int .i64 8, .int .i64 c, .int .i64 l, .int .i64 t, .int .i64 o, .int .i64 e, .int .i64 w_, .int .u32 v, .int .u32 d0, .int .u32 d1, .int .u32 d2, .int .u32 d3, .bool h] 28)).cell? ⟨w.heap.size, 2, none⟩ = some (.int .i64 l) := blk_cell HS0.out.bA rfl
  have x3 : (w.alloc (.cells #[.int .i64 8, .int .i64 c, .int .i64 l, .int .i64 t, .int .i64 o, .int .i64 e, .int .i64 w_, .int .u32 v, .int .u32 d0, .int .u32 d1, .int .u32 d2, .int .u32 d3, .bool h] 28)).cell? ⟨w.heap.size, 3, none⟩ = some (.int .i64 t) := blk_cell HS0.out.bA rfl
  have x4 : (w.alloc (.cells #[.int .i64 8, .int .i64 c, .int .i64 l, .int .i64 t, .int .i64 o, .int .i64 e, .int .i64 w_, .int .u32 v, .int .u32 d0, .int .u32 d1, .int .u32 d2, .int .u32 d3, .bool h] 28)).cell? ⟨w.heap.size, 4, none⟩ = some (.int .i64 o) := blk_cell HS0.out.bA rfl
  have x5 : (w.alloc (.cells #[.int .i64 8, .int .i64 c, .int .i64 l, .int .i64 t, .int .i64 o, .int .i64 e, .int .i64 w_, .int .u32 v, .int .u32 d0, .int .u32 d1, .int .u32 d2, .int .u32 d3, .bool h] 28)).cell? ⟨w.heap.size, 5, none⟩ = some (.int .i64 e) := blk_cell HS0.out.bA rfl
  have x6 : (w.alloc (.cells #[.int .i64 8, .int .i64 c, .int .i64 l, .int .i64 t, .int .i64 o, .int .i64 e, .int .i64 w_, .int .u32 v, .int .u32 d0, .int .u32 d1, .int .u32 d2, .int .u32 d3, .bool h] 28)).cell? ⟨w.heap.size, 6, none⟩ = some (.int .i64 w_) := blk_cell HS0.out.bA rfl
  have x7 : (w.alloc (.cells #[.int .i64 8, .int .i64 c, .int .i64 l, .int .i64 t, .int .i64 o, .int .i64 e, .int .i64 w_, .int .u32 v, .int .u32 d0, .int .u32 d1, .int .u32 d2, .int .u32 d3, .bool h] 28)).cell? ⟨w.heap.size, 7, none⟩ = some (.int .u32 v) := blk_cell HS0.out.bA rfl
  have x8 : (w.alloc (.cells #[.int .i64 8, .int .i64 c, .int .i64 l, .int .i64 t, .int .i64 o, .int .i64 e, .int .i64 w_, .int .u32 v, .int .u32 d0, .int .u32 d1, .int .u32 d2, .int .u32 d3, .bool h] 28)).cell? ⟨w.heap.size, 8, none⟩ = some (.int .u32 d0) := blk_cell HS0.out.bA rfl
  have x9 : (w.alloc (.cells #[.int .i64 8, .int .i64 c, .int .i64 l, .int .i64 t, .int .i64 o, .int .i64 e, .int .i64 w_, .int .u32 v, .int .u32 d0, .int .u32 d1, .int .u32 d2, .int .u32 d3, .bool h] 28)).cell? ⟨w.heap.size, 9, none⟩ = some (.int .u32 d1) := blk_cell HS0.out.bA rfl
  have x10 : (w.alloc (.cells #[.int .i64 8, .int .i64 c, .int .i64 l, .int .i64 t, .int .i64 o, .int .i64 e, .int .i64 w_, .int .u32 v, .int .u32 d0, .int .u32 d1, .int .u32 d2, .int .u32 d3, .bool h] 28)).cell? ⟨w.heap.size, 10, none⟩ = some (.int .u32 d2) := blk_cell HS0.out.bA rfl
  have x11 : (w.alloc (.cells #[.int .i64 8, .int .i64 c, .int .i64 l, .int .i64 t, .int .i64 o, .int .i64 e, .int .i64 w_, .int .u32 v, .int .u32 d0, .int .u32 d1, .int .u32 d2, .int .u32 d3, .bool h] 28)).cell? ⟨w.heap.size, 11, none⟩ = some (.int .u32 d3) := blk_cell HS0.out.bA rfl
  have x12 : (w.alloc (.cells #[.int .i64 8, .int .i64 c, .int .i64 l, .int .i64 t, .int .i64 o, .int .i64 e, .int .i64 w_, .int .u32 v, .int .u32 d0, .int .u32 d1, .int .u32 d2, .int .u32 d3, .bool h] 28)).cell? ⟨w.heap.size, 12, none⟩ = some (.bool h) := blk_cell HS0.out.bA rfl
  go_enter Tryd.func14, Tryd.ntmps14
  go_wp2_with fail
  refine (HRR.out _).mono ?_
  rintro r w1 ⟨rfl, hb⟩
  have HS := Hid.in (HS0.out.step hb)
  clear hb HS0 HRR
  clear x0 x1 x2 x3 x4 x5 x6 x7 x8 x9 x10 x11 x12
  have HFA : Hid (∀ W, SMA w #[.int .i64 8, .int .i64 c, .int .i64 l, .int .i64 t, .int .i64 o, .int .i64 e, .int .i64 w_, .int .u32 v, .int .u32 d0, .int .u32 d1, .int .u32 d2, .int .u32 d3, .bool h] W → W.cell? ⟨w.heap.size, 0, none⟩ = some (.int .i64 8) ∧ W.cell? ⟨w.heap.size, 1, none⟩ = some (.int .i64 c) ∧ W.cell? ⟨w.heap.size, 2, none⟩ = some (.int .i64 l) ∧ W.cell? ⟨w.heap.size, 3, none⟩ = some (.int .i64 t) ∧ W.cell? ⟨w.heap.size, 4, none⟩ = some (.int .i64 o) ∧ W.cell? ⟨w.heap.size, 5, none⟩ = some (.int .i64 e) ∧ W.cell? ⟨w.heap.size, 6, none⟩ = some (.int .i64 w_) ∧ W.cell? ⟨w.heap.size, 7, none⟩ = some (.int .u32 v) ∧ W.cell? ⟨w.heap.size, 8, none⟩ = some (.int .u32 d0) ∧ W.cell? ⟨w.heap.size, 9, none⟩ = some (.int .u32 d1) ∧ W.cell? ⟨w.heap.size, 10, none⟩ = some (.int .u32 d2) ∧ W.cell? ⟨w.heap.size, 11, none⟩ = some (.int .u32 d3) ∧ W.cell? ⟨w.heap.size, 12, none⟩ = some (.bool h)) := Hid.in (fun W h => ⟨blk_cell h.bA rfl, blk_cell h.bA rfl, blk_cell h.bA rfl, blk_cell h.bA rfl, blk_cell h.bA rfl, blk_cell h.bA rfl, blk_cell h.bA rfl, blk_cell h.bA rfl, blk_cell h.bA rfl, blk_cell h.bA rfl, blk_cell h.bA rfl, blk_cell h.bA rfl, blk_cell h.bA rfl⟩)
  have HO : Hid (Lie w1 none 0 []) := Hid.in (Lie.nil _)
  have HM : Hid (0 = ([] : List Nat).length) := Hid.in rfl
  go_upto_region 3 with fail
  have HSd := Hid.in (HS.out.step (Below.refl _ _).drew)
  have HOd := Hid.in (HO.out.step (Below.refl _ _).drew)
  clear HS HO
  have HS := HSd
  have HO := HOd
  clear HSd HOd
  refine wp_region_but (SMA w #[.int .i64 8, .int .i64 c, .int .i64 l, .int .i64 t, .int .i64 o, .int .i64 e, .int .i64 w_, .int .u32 v, .int .u32 d0, .int .u32 d1, .int .u32 d2, .int .u32 d3, .bool h]) 9 (by kernel_rfl) ?_
  generalize hX : w1.drew = X3 at *
  clear hX
  have HW1 : True := trivial
  refine wpBut_take (i := 0) (v := ?_) rfl (by kernel_rfl) (by kernel_rfl) (by exact fun _ _ _ h => h) HS.out (Or.inl ⟨by rfl, ?_⟩) ?_
  case refine_2 => (intro W _; go_simp; try with_reducible rfl)
  simp only [Act.put, List.setIfInBounds_toArray, List.set_cons_zero, List.set_cons_succ]
  refine wpBut_take (i := 1) (v := ?_) rfl (by kernel_rfl) (by kernel_rfl) (by exact fun _ _ _ h => h) HS.out (Or.inl ⟨by rfl, ?_⟩) ?_
  case refine_2 => (intro W hSw; obtain ⟨s0, s1, s2, s3, s4, s5, s6, s7, s8, s9, s10, s11, s12⟩ := HFA.out W hSw; go_simp; try with_reducible rfl)
  simp only [Act.put, List.setIfInBounds_toArray, List.set_cons_zero, List.set_cons_succ]
  refine wpBut_take (i := 3) (v := ?_) rfl (by kernel_rfl) (by kernel_rfl) (by exact fun _ _ _ h => h) HS.out (Or.inl ⟨by rfl, ?_⟩) ?_
  case refine_2 => (intro W _; go_simp; try with_reducible rfl)
  simp only [Act.put, List.setIfInBounds_toArray, List.set_cons_zero, List.set_cons_succ]
  refine wpBut_take (i := 4) (v := ?_) rfl (by kernel_rfl) (by kernel_rfl) (by exact fun _ _ _ h => h) HS.out (Or.inl ⟨by rfl, ?_⟩) ?_
  case refine_2 => (intro W hSw; obtain ⟨s0, s1, s2, s3, s4, s5, s6, s7, s8, s9, s10, s11, s12⟩ := HFA.out W hSw; go_simp; try with_reducible rfl)
  simp only [Act.put, List.setIfInBounds_toArray, List.set_cons_zero, List.set_cons_succ]
  refine wpBut_take (i := 6) (v := ?_) rfl (by kernel_rfl) (by kernel_rfl) (by exact fun _ _ _ h => h) HS.out (Or.inl ⟨by rfl, ?_⟩) ?_
  case refine_2 => (intro W _; go_simp; try with_reducible rfl)
  simp only [Act.put, List.setIfInBounds_toArray, List.set_cons_zero, List.set_cons_succ]
  refine wpBut_take (i := 7) (v := ?_) rfl (by kernel_rfl) (by kernel_rfl) (by exact fun _ _ _ h => h) HS.out (Or.inl ⟨by rfl, ?_⟩) ?_
  case refine_2 => (intro W hSw; obtain ⟨s0, s1, s2, s3, s4, s5, s6, s7, s8, s9, s10, s11, s12⟩ := HFA.out W hSw; go_simp; try with_reducible rfl)
  simp only [Act.put, List.setIfInBounds_toArray, List.set_cons_zero, List.set_cons_succ]
  refine wpBut_one (i := 2) rfl (by kernel_rfl) (fun K HK => ?_)
  go_simp
  refine (qnum_o none 0 0 [] 8 _ HM.out HO.out (by first | exact Nat.zero_le _ | (simp only [List.length_append, List.length_nil]; omega)) (by omega) (by omega)).mono ?_
  rintro r v2 ⟨a2, M2, c2, rfl, hM, hO, hb⟩
  have HSn := Hid.in (HS.out.step hb)
  have HMn := Hid.in hM
  have HOn := Hid.in hO.lie
  have HW2 := Hid.in (hO.lower (B' := w.heap.size) (by have := HS.out.be.size; omega))
  clear hb hM hO HM HO
  clear HW1
  refine HK.out _ _ (fun _ => HSn.out) ?_
  clear HK K HS
  have HS := HSn
  have HM := HMn
  have HO := HOn
  clear HSn HMn HOn
  try simp only [Act.put, List.setIfInBounds_toArray, List.set_cons_zero, List.set_cons_succ]
  refine wpBut_one (i := 5) rfl (by kernel_rfl) (fun K HK => ?_)
  go_simp
  refine (qnum_o a2 M2 c2 ([] ++ enc (zz 8)) c _ HM.out HO.out (by first | exact Nat.zero_le _ | (simp only [List.length_append, List.length_nil]; omega)) (by omega) (by omega)).mono ?_
  rintro r v3 ⟨a3, M3, c3, rfl, hM, hO, hb⟩
  have HSn := Hid.in (HS.out.step hb)
  have HMn := Hid.in hM
  have HOn := Hid.in hO.lie
  have HW3 := Hid.in (hO.lower (B' := w.heap.size) (by have := HS.out.be.size; omega))
  clear hb hM hO HM HO
  clear HW2
  refine HK.out _ _ (fun _ => HSn.out) ?_
  clear HK K HS
  have HS := HSn
  have HM := HMn
  have HO := HOn
  clear HSn HMn HOn
  try simp only [Act.put, List.setIfInBounds_toArray, List.set_cons_zero, List.set_cons_succ]
  refine wpBut_one (i := 8) rfl (by kernel_rfl) (fun K HK => ?_)
  go_simp
  refine (qnum_o a3 M3 c3 (([] ++ enc (zz 8)) ++ enc (zz c)) l _ HM.out HO.out (by first | exact Nat.zero_le _ | (simp only [List.length_append, List.length_nil]; omega)) (by omega) (by omega)).mono ?_
  rintro r v4 ⟨a4, M4, c4, rfl, hM, hO, hb⟩
  have HSn := Hid.in (HS.out.step hb)
  have HMn := Hid.in hM
  have HOn := Hid.in hO.lie
  have HW4 := Hid.in (hO.lower (B' := w.heap.size) (by have := HS.out.be.size; omega))
  clear hb hM hO HM HO
  clear HW3
  refine HK.out _ _ (fun _ => HSn.out) ?_
  clear HK K HS
  have HS := HSn
  have HM := HMn
  have HO := HOn
  clear HSn HMn HOn
  try simp only [Act.put, List.setIfInBounds_toArray, List.set_cons_zero, List.set_cons_succ]
  refine wpBut_one (i := 9) rfl (by kernel_rfl) (fun K HK => ?_)
  go_simp
  refine HK.out _ _ (fun h => absurd rfl h) ?_
  clear HK K
  try simp only [Act.put, List.setIfInBounds_toArray, List.set_cons_zero, List.set_cons_succ]
  refine wpBut_done (by kernel_rfl) ?_ _
  have x0 : v4.cell? ⟨w.heap.size, 0, none⟩ = some (.int .i64 8) := blk_cell HS.out.bA rfl
  go_upto_region 24 with fail
  have HSd := Hid.in (HS.out.step (Below.refl _ _).drew)
  have HOd := Hid.in (HO.out.step (Below.refl _ _).drew)
  clear HS HO
  have HS := HSd
  have HO := HOd
  clear HSd HOd
  refine wp_region_but (SMA w #[.int .i64 8, .int .i64 c, .int .i64 l, .int .i64 t, .int .i64 o, .int .i64 e, .int .i64 w_, .int .u32 v, .int .u32 d0, .int .u32 d1, .int .u32 d2, .int .u32 d3, .bool h]) 8 (by kernel_rfl) ?_
  generalize hX : v4.drew = X24 at *
  clear hX
  clear HW4
  have HW5 : True := trivial
  clear x0
  refine wpBut_take (i := 0) (v := ?_) rfl (by kernel_rfl) (by kernel_rfl) (by exact fun _ _ _ h => h) HS.out (Or.inl ⟨by rfl, ?_⟩) ?_
  case refine_2 => (intro W _; go_simp; try with_reducible rfl)
  simp only [Act.put, List.setIfInBounds_toArray, List.set_cons_zero, List.set_cons_succ]
  refine wpBut_take (i := 1) (v := ?_) rfl (by kernel_rfl) (by kernel_rfl) (by exact fun _ _ _ h => h) HS.out (Or.inl ⟨by rfl, ?_⟩) ?_
  case refine_2 => (intro W hSw; obtain ⟨s0, s1, s2, s3, s4, s5, s6, s7, s8, s9, s10, s11, s12⟩ := HFA.out W hSw; go_simp; try with_reducible rfl)
  simp only [Act.put, List.setIfInBounds_toArray, List.set_cons_zero, List.set_cons_succ]
  refine wpBut_take (i := 2) (v := ?_) rfl (by kernel_rfl) (by kernel_rfl) (by exact fun _ _ _ h => h) HS.out (Or.inl ⟨by rfl, ?_⟩) ?_
  case refine_2 => (intro W hSw; obtain ⟨s0, s1, s2, s3, s4, s5, s6, s7, s8, s9, s10, s11, s12⟩ := HFA.out W hSw; go_simp; try with_reducible rfl)
  simp only [Act.put, List.setIfInBounds_toArray, List.set_cons_zero, List.set_cons_succ]
  refine wpBut_take (i := 4) (v := ?_) rfl (by kernel_rfl) (by kernel_rfl) (by exact fun _ _ _ h => h) HS.out (Or.inl ⟨by rfl, ?_⟩) ?_
  case refine_2 => (intro W _; go_simp; try with_reducible rfl)
  simp only [Act.put, List.setIfInBounds_toArray, List.set_cons_zero, List.set_cons_succ]
  refine wpBut_take (i := 5) (v := ?_) rfl (by kernel_rfl) (by kernel_rfl) (by exact fun _ _ _ h => h) HS.out (Or.inl ⟨by rfl, ?_⟩) ?_
  case refine_2 => (intro W hSw; obtain ⟨s0, s1, s2, s3, s4, s5, s6, s7, s8, s9, s10, s11, s12⟩ := HFA.out W hSw; go_simp; try with_reducible rfl)
  simp only [Act.put, List.setIfInBounds_toArray, List.set_cons_zero, List.set_cons_succ]
  refine wpBut_take (i := 6) (v := ?_) rfl (by kernel_rfl) (by kernel_rfl) (by exact fun _ _ _ h => h) HS.out (Or.inl ⟨by rfl, ?_⟩) ?_
  case refine_2 => (intro W _; go_simp; try with_reducible rfl)
  simp only [Act.put, List.setIfInBounds_toArray, List.set_cons_zero, List.set_cons_succ]
  refine wpBut_one (i := 3) rfl (by kernel_rfl) (fun K HK => ?_)
  go_simp
  refine (qnum_o a4 M4 c4 ((([] ++ enc (zz 8)) ++ enc (zz c)) ++ enc (zz l)) w_ _ HM.out HO.out (by first | exact Nat.zero_le _ | (simp only [List.length_append, List.length_nil]; omega)) (by omega) (by omega)).mono ?_
  rintro r v6 ⟨a6, M6, c6, rfl, hM, hO, hb⟩
  have HSn := Hid.in (HS.out.step hb)
  have HMn := Hid.in hM
  have HOn := Hid.in hO.lie
  have HW6 := Hid.in (hO.lower (B' := w.heap.size) (by have := HS.out.be.size; omega))
  clear hb hM hO HM HO
  clear HW5
  refine HK.out _ _ (fun _ => HSn.out) ?_
  clear HK K HS
  have HS := HSn
  have HM := HMn
  have HO := HOn
  clear HSn HMn HOn
  try simp only [Act.put, List.setIfInBounds_toArray, List.set_cons_zero, List.set_cons_succ]
  refine wpBut_one (i := 7) rfl (by kernel_rfl) (fun K HK => ?_)
  go_simp
  refine (qnum_o a6 M6 c6 (((([] ++ enc (zz 8)) ++ enc (zz c)) ++ enc (zz l)) ++ enc (zz w_)) v _ HM.out HO.out (by first | exact Nat.zero_le _ | (simp only [List.length_append, List.length_nil]; omega)) (by omega) (by omega)).mono ?_
  rintro r v7 ⟨a7, M7, c7, rfl, hM, hO, hb⟩
  have HSn := Hid.in (HS.out.step hb)
  have HMn := Hid.in hM
  have HOn := Hid.in hO.lie
  have HW7 := Hid.in (hO.lower (B' := w.heap.size) (by have := HS.out.be.size; omega))
  clear hb hM hO HM HO
  clear HW6
  refine HK.out _ _ (fun _ => HSn.out) ?_
  clear HK K HS
  have HS := HSn
  have HM := HMn
  have HO := HOn
  clear HSn HMn HOn
  try simp only [Act.put, List.setIfInBounds_toArray, List.set_cons_zero, List.set_cons_succ]
  refine wpBut_one (i := 8) rfl (by kernel_rfl) (fun K HK => ?_)
  go_simp
  refine HK.out _ _ (fun h => absurd rfl h) ?_
  clear HK K
  try simp only [Act.put, List.setIfInBounds_toArray, List.set_cons_zero, List.set_cons_succ]
  refine wpBut_done (by kernel_rfl) ?_ _
  go_wp2
  go_ret
  exact ⟨_, _, _, rfl, HM.out, HW7.out, HS.out.be⟩

set_option maxHeartbeats 6400000 in
set_option maxRecDepth 20000 in
theorem qsPut_U14 (w : World) (c l t o e w_ v d0 d1 d2 d3 : Int) (h : Bool) (h32 : M32 (14, c, l, t, o, e, w_, v, d0, d1, d2, d3, h)) (h64 : M64 (14, c, l, t, o, e, w_, v, d0, d1, d2, d3, h)) (hr : rtP (14, c, l, t, o, e, w_, v, d0, d1, d2, d3, h)) :
    Calls Tryd.prog 14 #[.agg #[.int .i64 14, .int .i64 c, .int .i64 l, .int .i64 t, .int .i64 o, .int .i64 e, .int .i64 w_, .int .u32 v, .int .u32 d0, .int .u32 d1, .int .u32 d2, .int .u32 d3, .bool h]] w fun r w' => ∃ ao N cap, r = .returned (.slice ao N cap) ∧ N = (encM (14, c, l, t, o, e, w_, v, d0, d1, d2, d3, h)).length ∧ Own w' w.heap.size ao N cap (encM (14, c, l, t, o, e, w_, v, d0, d1, d2, d3, h)) ∧ Below w.heap.size w w' := by
  have HEN : Hid (encM (14, c, l, t, o, e, w_, v, d0, d1, d2, d3, h) = ((((([] ++ enc (zz 14)) ++ enc (zz c)) ++ enc (zz l)) ++ enc (zz w_)) ++ enc (zz v))) := Hid.in (by
    have h1 := mask_eq _ hr
    rw [← h1]
    rw [show maskM (14, c, l, t, o, e, w_, v, d0, d1, d2, d3, h) = (14, c, l, 0, 0, 0, w_, v, 0, 0, 0, 0, false) from rfl]
    exact encM_U (by simp))
  rw [HEN.out]
  have b64 := h64
  have b32 := h32
  simp only [M64] at b64
  simp only [M32] at b32
  obtain ⟨bk, bc, bl, bt, bo, be, bw⟩ := b64
  obtain ⟨⟨bv0, bv1⟩, ⟨bd00, bd01⟩, ⟨bd10, bd11⟩, ⟨bd20, bd21⟩, bd30, bd31⟩ := b32
  have wrv : IntKind.i64.wrap v = v := by rw [IntKind.wrap_i64]; omega
  have n0 := num_len (14 : Int) (by omega) (by omega)
  have n1 := num_len c (by omega) (by omega)
  have n2 := num_len l (by omega) (by omega)
  have n3 := num_len w_ (by omega) (by omega)
  have n4 := num_len v (by omega) (by omega)
  have hrr := fun W => qsRight_any (14, c, l, t, o, e, w_, v, d0, d1, d2, d3, h) W h64
  rw [(rtB_iff _).2 hr] at hrr
  simp only [mv] at hrr
  have HRR := Hid.in hrr
  clear hrr hr
  have HS0 : Hid (SMA w #[.int .i64 14, .int .i64 c, .int .i64 l, .int .i64 t, .int .i64 o, .int .i64 e, .int .i64 w_, .int .u32 v, .int .u32 d0, .int .u32 d1, .int .u32 d2, .int .u32 d3, .bool h] (w.alloc (.cells #[.int .i64 14, .int .i64 c, .int .i64 l, .int .i64 t, .int .i64 o, .int .i64 e, .int .i64 w_, .int .u32 v, .int .u32 d0, .int .u32 d1, .int .u32 d2, .int .u32 d3, .bool h] 28))) := Hid.in ⟨heap_alloc_new _ _, below_alloc _ _⟩
  have x0 : (w.alloc (.cells #[.int .i64 14, .int .i64 c, .int .i64 l, .int .i64 t, .int .i64 o, .int .i64 e, .int .i64 w_, .int .u32 v, .int .u32 d0, .int .u32 d1, .int .u32 d2, .int .u32 d3, .bool h] 28)).cell? ⟨w.heap.size, 0, none⟩ = some (.int .i64 14) := blk_cell HS0.out.bA rfl
  have x1 : (w.alloc (.cells #[.int .i64 14, .int .i64 c, .int .i64 l, .int .i64 t, .int .i64 o, .int .i64 e, .int .i64 w_, .int .u32 v, .int .u32 d0, .int .u32 d1, .int .u32 d2, .int .u32 d3, .bool h] 28)).cell? ⟨w.heap.size, 1, none⟩ = some (.int .i64 c) := blk_cell HS0.out.bA rfl
  have x2 : (w.alloc (.cells #[.int .i64 14, .int .i64 c, .int .i64 l, .int .i64 t, .int .i64 o, .int .i64 e, .int .i64 w_, .int .u32 v, .int .u32 d0, .int .u32 d1, .int .u32 d2, .int .u32 d3, .bool h] 28)).cell? ⟨w.heap.size, 2, none⟩ = some (.int .i64 l) := blk_cell HS0.out.bA rfl
  have x3 : (w.alloc (.cells #[.int .i64 14, .int .i64 c, .int .i64 l, .int .i64 t, .int .i64 o, .int .i64 e, .int .i64 w_, .int .u32 v, .int .u32 d0, .int .u32 d1, .int .u32 d2, .int .u32 d3, .bool h] 28)).cell? ⟨w.heap.size, 3, none⟩ = some (.int .i64 t) := blk_cell HS0.out.bA rfl
  have x4 : (w.alloc (.cells #[.int .i64 14, .int .i64 c, .int .i64 l, .int .i64 t, .int .i64 o, .int .i64 e, .int .i64 w_, .int .u32 v, .int .u32 d0, .int .u32 d1, .int .u32 d2, .int .u32 d3, .bool h] 28)).cell? ⟨w.heap.size, 4, none⟩ = some (.int .i64 o) := blk_cell HS0.out.bA rfl
  have x5 : (w.alloc (.cells #[.int .i64 14, .int .i64 c, .int .i64 l, .int .i64 t, .int .i64 o, .int .i64 e, .int .i64 w_, .int .u32 v, .int .u32 d0, .int .u32 d1, .int .u32 d2, .int .u32 d3, .bool h] 28)).cell? ⟨w.heap.size, 5, none⟩ = some (.int .i64 e) := blk_cell HS0.out.bA rfl
  have x6 : (w.alloc (.cells #[.int .i64 14, .int .i64 c, .int .i64 l, .int .i64 t, .int .i64 o, .int .i64 e, .int .i64 w_, .int .u32 v, .int .u32 d0, .int .u32 d1, .int .u32 d2, .int .u32 d3, .bool h] 28)).cell? ⟨w.heap.size, 6, none⟩ = some (.int .i64 w_) := blk_cell HS0.out.bA rfl
  have x7 : (w.alloc (.cells #[.int .i64 14, .int .i64 c, .int .i64 l, .int .i64 t, .int .i64 o, .int .i64 e, .int .i64 w_, .int .u32 v, .int .u32 d0, .int .u32 d1, .int .u32 d2, .int .u32 d3, .bool h] 28)).cell? ⟨w.heap.size, 7, none⟩ = some (.int .u32 v) := blk_cell HS0.out.bA rfl
  have x8 : (w.alloc (.cells #[.int .i64 14, .int .i64 c, .int .i64 l, .int .i64 t, .int .i64 o, .int .i64 e, .int .i64 w_, .int .u32 v, .int .u32 d0, .int .u32 d1, .int .u32 d2, .int .u32 d3, .bool h] 28)).cell? ⟨w.heap.size, 8, none⟩ = some (.int .u32 d0) := blk_cell HS0.out.bA rfl
  have x9 : (w.alloc (.cells #[.int .i64 14, .int .i64 c, .int .i64 l, .int .i64 t, .int .i64 o, .int .i64 e, .int .i64 w_, .int .u32 v, .int .u32 d0, .int .u32 d1, .int .u32 d2, .int .u32 d3, .bool h] 28)).cell? ⟨w.heap.size, 9, none⟩ = some (.int .u32 d1) := blk_cell HS0.out.bA rfl
  have x10 : (w.alloc (.cells #[.int .i64 14, .int .i64 c, .int .i64 l, .int .i64 t, .int .i64 o, .int .i64 e, .int .i64 w_, .int .u32 v, .int .u32 d0, .int .u32 d1, .int .u32 d2, .int .u32 d3, .bool h] 28)).cell? ⟨w.heap.size, 10, none⟩ = some (.int .u32 d2) := blk_cell HS0.out.bA rfl
  have x11 : (w.alloc (.cells #[.int .i64 14, .int .i64 c, .int .i64 l, .int .i64 t, .int .i64 o, .int .i64 e, .int .i64 w_, .int .u32 v, .int .u32 d0, .int .u32 d1, .int .u32 d2, .int .u32 d3, .bool h] 28)).cell? ⟨w.heap.size, 11, none⟩ = some (.int .u32 d3) := blk_cell HS0.out.bA rfl
  have x12 : (w.alloc (.cells #[.int .i64 14, .int .i64 c, .int .i64 l, .int .i64 t, .int .i64 o, .int .i64 e, .int .i64 w_, .int .u32 v, .int .u32 d0, .int .u32 d1, .int .u32 d2, .int .u32 d3, .bool h] 28)).cell? ⟨w.heap.size, 12, none⟩ = some (.bool h) := blk_cell HS0.out.bA rfl
  go_enter Tryd.func14, Tryd.ntmps14
  go_wp2_with fail
  refine (HRR.out _).mono ?_
  rintro r w1 ⟨rfl, hb⟩
  have HS := Hid.in (HS0.out.step hb)
  clear hb HS0 HRR
  clear x0 x1 x2 x3 x4 x5 x6 x7 x8 x9 x10 x11 x12
  have HFA : Hid (∀ W, SMA w #[.int .i64 14, .int .i64 c, .int .i64 l, .int .i64 t, .int .i64 o, .int .i64 e, .int .i64 w_, .int .u32 v, .int .u32 d0, .int .u32 d1, .int .u32 d2, .int .u32 d3, .bool h] W → W.cell? ⟨w.heap.size, 0, none⟩ = some (.int .i64 14) ∧ W.cell? ⟨w.heap.size, 1, none⟩ = some (.int .i64 c) ∧ W.cell? ⟨w.heap.size, 2, none⟩ = some (.int .i64 l) ∧ W.cell? ⟨w.heap.size, 3, none⟩ = some (.int .i64 t) ∧ W.cell? ⟨w.heap.size, 4, none⟩ = some (.int .i64 o) ∧ W.cell? ⟨w.heap.size, 5, none⟩ = some (.int .i64 e) ∧ W.cell? ⟨w.heap.size, 6, none⟩ = some (.int .i64 w_) ∧ W.cell? ⟨w.heap.size, 7, none⟩ = some (.int .u32 v) ∧ W.cell? ⟨w.heap.size, 8, none⟩ = some (.int .u32 d0) ∧ W.cell? ⟨w.heap.size, 9, none⟩ = some (.int .u32 d1) ∧ W.cell? ⟨w.heap.size, 10, none⟩ = some (.int .u32 d2) ∧ W.cell? ⟨w.heap.size, 11, none⟩ = some (.int .u32 d3) ∧ W.cell? ⟨w.heap.size, 12, none⟩ = some (.bool h)) := Hid.in (fun W h => ⟨blk_cell h.bA rfl, blk_cell h.bA rfl, blk_cell h.bA rfl, blk_cell h.bA rfl, blk_cell h.bA rfl, blk_cell h.bA rfl, blk_cell h.bA rfl, blk_cell h.bA rfl, blk_cell h.bA rfl, blk_cell h.bA rfl, blk_cell h.bA rfl, blk_cell h.bA rfl, blk_cell h.bA rfl⟩)
  have HO : Hid (Lie w1 none 0 []) := Hid.in (Lie.nil _)
  have HM : Hid (0 = ([] : List Nat).length) := Hid.in rfl
  go_upto_region 3 with fail
  have HSd := Hid.in (HS.out.step (Below.refl _ _).drew)
  have HOd := Hid.in (HO.out.step (Below.refl _ _).drew)
  clear HS HO
  have HS := HSd
  have HO := HOd
  clear HSd HOd
  refine wp_region_but (SMA w #[.int .i64 14, .int .i64 c, .int .i64 l, .int .i64 t, .int .i64 o, .int .i64 e, .int .i64 w_, .int .u32 v, .int .u32 d0, .int .u32 d1, .int .u32 d2, .int .u32 d3, .bool h]) 9 (by kernel_rfl) ?_
  generalize hX : w1.drew = X3 at *
  clear hX
  have HW1 : True := trivial
  refine wpBut_take (i := 0) (v := ?_) rfl (by kernel_rfl) (by kernel_rfl) (by exact fun _ _ _ h => h) HS.out (Or.inl ⟨by rfl, ?_⟩) ?_
  case refine_2 => (intro W _; go_simp; try with_reducible rfl)
  simp only [Act.put, List.setIfInBounds_toArray, List.set_cons_zero, List.set_cons_succ]
  refine wpBut_take (i := 1) (v := ?_) rfl (by kernel_rfl) (by kernel_rfl) (by exact fun _ _ _ h => h) HS.out (Or.inl ⟨by rfl, ?_⟩) ?_
  case refine_2 => (intro W hSw; obtain ⟨s0, s1, s2, s3, s4, s5, s6, s7, s8, s9, s10, s11, s12⟩ := HFA.out W hSw; go_simp; try with_reducible rfl)
  simp only [Act.put, List.setIfInBounds_toArray, List.set_cons_zero, List.set_cons_succ]
  refine wpBut_take (i := 3) (v := ?_) rfl (by kernel_rfl) (by kernel_rfl) (by exact fun _ _ _ h => h) HS.out (Or.inl ⟨by rfl, ?_⟩) ?_
  case refine_2 => (intro W _; go_simp; try with_reducible rfl)
  simp only [Act.put, List.setIfInBounds_toArray, List.set_cons_zero, List.set_cons_succ]
  refine wpBut_take (i := 4) (v := ?_) rfl (by kernel_rfl) (by kernel_rfl) (by exact fun _ _ _ h => h) HS.out (Or.inl ⟨by rfl, ?_⟩) ?_
  case refine_2 => (intro W hSw; obtain ⟨s0, s1, s2, s3, s4, s5, s6, s7, s8, s9, s10, s11, s12⟩ := HFA.out W hSw; go_simp; try with_reducible rfl)
  simp only [Act.put, List.setIfInBounds_toArray, List.set_cons_zero, List.set_cons_succ]
  refine wpBut_take (i := 6) (v := ?_) rfl (by kernel_rfl) (by kernel_rfl) (by exact fun _ _ _ h => h) HS.out (Or.inl ⟨by rfl, ?_⟩) ?_
  case refine_2 => (intro W _; go_simp; try with_reducible rfl)
  simp only [Act.put, List.setIfInBounds_toArray, List.set_cons_zero, List.set_cons_succ]
  refine wpBut_take (i := 7) (v := ?_) rfl (by kernel_rfl) (by kernel_rfl) (by exact fun _ _ _ h => h) HS.out (Or.inl ⟨by rfl, ?_⟩) ?_
  case refine_2 => (intro W hSw; obtain ⟨s0, s1, s2, s3, s4, s5, s6, s7, s8, s9, s10, s11, s12⟩ := HFA.out W hSw; go_simp; try with_reducible rfl)
  simp only [Act.put, List.setIfInBounds_toArray, List.set_cons_zero, List.set_cons_succ]
  refine wpBut_one (i := 2) rfl (by kernel_rfl) (fun K HK => ?_)
  go_simp
  refine (qnum_o none 0 0 [] 14 _ HM.out HO.out (by first | exact Nat.zero_le _ | (simp only [List.length_append, List.length_nil]; omega)) (by omega) (by omega)).mono ?_
  rintro r v2 ⟨a2, M2, c2, rfl, hM, hO, hb⟩
  have HSn := Hid.in (HS.out.step hb)
  have HMn := Hid.in hM
  have HOn := Hid.in hO.lie
  have HW2 := Hid.in (hO.lower (B' := w.heap.size) (by have := HS.out.be.size; omega))
  clear hb hM hO HM HO
  clear HW1
  refine HK.out _ _ (fun _ => HSn.out) ?_
  clear HK K HS
  have HS := HSn
  have HM := HMn
  have HO := HOn
  clear HSn HMn HOn
  try simp only [Act.put, List.setIfInBounds_toArray, List.set_cons_zero, List.set_cons_succ]
  refine wpBut_one (i := 5) rfl (by kernel_rfl) (fun K HK => ?_)
  go_simp
  refine (qnum_o a2 M2 c2 ([] ++ enc (zz 14)) c _ HM.out HO.out (by first | exact Nat.zero_le _ | (simp only [List.length_append, List.length_nil]; omega)) (by omega) (by omega)).mono ?_
  rintro r v3 ⟨a3, M3, c3, rfl, hM, hO, hb⟩
  have HSn := Hid.in (HS.out.step hb)
  have HMn := Hid.in hM
  have HOn := Hid.in hO.lie
  have HW3 := Hid.in (hO.lower (B' := w.heap.size) (by have := HS.out.be.size; omega))
  clear hb hM hO HM HO
  clear HW2
  refine HK.out _ _ (fun _ => HSn.out) ?_
  clear HK K HS
  have HS := HSn
  have HM := HMn
  have HO := HOn
  clear HSn HMn HOn
  try simp only [Act.put, List.setIfInBounds_toArray, List.set_cons_zero, List.set_cons_succ]
  refine wpBut_one (i := 8) rfl (by kernel_rfl) (fun K HK => ?_)
  go_simp
  refine (qnum_o a3 M3 c3 (([] ++ enc (zz 14)) ++ enc (zz c)) l _ HM.out HO.out (by first | exact Nat.zero_le _ | (simp only [List.length_append, List.length_nil]; omega)) (by omega) (by omega)).mono ?_
  rintro r v4 ⟨a4, M4, c4, rfl, hM, hO, hb⟩
  have HSn := Hid.in (HS.out.step hb)
  have HMn := Hid.in hM
  have HOn := Hid.in hO.lie
  have HW4 := Hid.in (hO.lower (B' := w.heap.size) (by have := HS.out.be.size; omega))
  clear hb hM hO HM HO
  clear HW3
  refine HK.out _ _ (fun _ => HSn.out) ?_
  clear HK K HS
  have HS := HSn
  have HM := HMn
  have HO := HOn
  clear HSn HMn HOn
  try simp only [Act.put, List.setIfInBounds_toArray, List.set_cons_zero, List.set_cons_succ]
  refine wpBut_one (i := 9) rfl (by kernel_rfl) (fun K HK => ?_)
  go_simp
  refine HK.out _ _ (fun h => absurd rfl h) ?_
  clear HK K
  try simp only [Act.put, List.setIfInBounds_toArray, List.set_cons_zero, List.set_cons_succ]
  refine wpBut_done (by kernel_rfl) ?_ _
  have x0 : v4.cell? ⟨w.heap.size, 0, none⟩ = some (.int .i64 14) := blk_cell HS.out.bA rfl
  go_upto_region 24 with fail
  have HSd := Hid.in (HS.out.step (Below.refl _ _).drew)
  have HOd := Hid.in (HO.out.step (Below.refl _ _).drew)
  clear HS HO
  have HS := HSd
  have HO := HOd
  clear HSd HOd
  refine wp_region_but (SMA w #[.int .i64 14, .int .i64 c, .int .i64 l, .int .i64 t, .int .i64 o, .int .i64 e, .int .i64 w_, .int .u32 v, .int .u32 d0, .int .u32 d1, .int .u32 d2, .int .u32 d3, .bool h]) 8 (by kernel_rfl) ?_
  generalize hX : v4.drew = X24 at *
  clear hX
  clear HW4
  have HW5 : True := trivial
  clear x0
  refine wpBut_take (i := 0) (v := ?_) rfl (by kernel_rfl) (by kernel_rfl) (by exact fun _ _ _ h => h) HS.out (Or.inl ⟨by rfl, ?_⟩) ?_
  case refine_2 => (intro W _; go_simp; try with_reducible rfl)
  simp only [Act.put, List.setIfInBounds_toArray, List.set_cons_zero, List.set_cons_succ]
  refine wpBut_take (i := 1) (v := ?_) rfl (by kernel_rfl) (by kernel_rfl) (by exact fun _ _ _ h => h) HS.out (Or.inl ⟨by rfl, ?_⟩) ?_
  case refine_2 => (intro W hSw; obtain ⟨s0, s1, s2, s3, s4, s5, s6, s7, s8, s9, s10, s11, s12⟩ := HFA.out W hSw; go_simp; try with_reducible rfl)
  simp only [Act.put, List.setIfInBounds_toArray, List.set_cons_zero, List.set_cons_succ]
  refine wpBut_take (i := 2) (v := ?_) rfl (by kernel_rfl) (by kernel_rfl) (by exact fun _ _ _ h => h) HS.out (Or.inl ⟨by rfl, ?_⟩) ?_
  case refine_2 => (intro W hSw; obtain ⟨s0, s1, s2, s3, s4, s5, s6, s7, s8, s9, s10, s11, s12⟩ := HFA.out W hSw; go_simp; try with_reducible rfl)
  simp only [Act.put, List.setIfInBounds_toArray, List.set_cons_zero, List.set_cons_succ]
  refine wpBut_take (i := 4) (v := ?_) rfl (by kernel_rfl) (by kernel_rfl) (by exact fun _ _ _ h => h) HS.out (Or.inl ⟨by rfl, ?_⟩) ?_
  case refine_2 => (intro W _; go_simp; try with_reducible rfl)
  simp only [Act.put, List.setIfInBounds_toArray, List.set_cons_zero, List.set_cons_succ]
  refine wpBut_take (i := 5) (v := ?_) rfl (by kernel_rfl) (by kernel_rfl) (by exact fun _ _ _ h => h) HS.out (Or.inl ⟨by rfl, ?_⟩) ?_
  case refine_2 => (intro W hSw; obtain ⟨s0, s1, s2, s3, s4, s5, s6, s7, s8, s9, s10, s11, s12⟩ := HFA.out W hSw; go_simp; try with_reducible rfl)
  simp only [Act.put, List.setIfInBounds_toArray, List.set_cons_zero, List.set_cons_succ]
  refine wpBut_take (i := 6) (v := ?_) rfl (by kernel_rfl) (by kernel_rfl) (by exact fun _ _ _ h => h) HS.out (Or.inl ⟨by rfl, ?_⟩) ?_
  case refine_2 => (intro W _; go_simp; try with_reducible rfl)
  simp only [Act.put, List.setIfInBounds_toArray, List.set_cons_zero, List.set_cons_succ]
  refine wpBut_one (i := 3) rfl (by kernel_rfl) (fun K HK => ?_)
  go_simp
  refine (qnum_o a4 M4 c4 ((([] ++ enc (zz 14)) ++ enc (zz c)) ++ enc (zz l)) w_ _ HM.out HO.out (by first | exact Nat.zero_le _ | (simp only [List.length_append, List.length_nil]; omega)) (by omega) (by omega)).mono ?_
  rintro r v6 ⟨a6, M6, c6, rfl, hM, hO, hb⟩
  have HSn := Hid.in (HS.out.step hb)
  have HMn := Hid.in hM
  have HOn := Hid.in hO.lie
  have HW6 := Hid.in (hO.lower (B' := w.heap.size) (by have := HS.out.be.size; omega))
  clear hb hM hO HM HO
  clear HW5
  refine HK.out _ _ (fun _ => HSn.out) ?_
  clear HK K HS
  have HS := HSn
  have HM := HMn
  have HO := HOn
  clear HSn HMn HOn
  try simp only [Act.put, List.setIfInBounds_toArray, List.set_cons_zero, List.set_cons_succ]
  refine wpBut_one (i := 7) rfl (by kernel_rfl) (fun K HK => ?_)
  go_simp
  refine (qnum_o a6 M6 c6 (((([] ++ enc (zz 14)) ++ enc (zz c)) ++ enc (zz l)) ++ enc (zz w_)) v _ HM.out HO.out (by first | exact Nat.zero_le _ | (simp only [List.length_append, List.length_nil]; omega)) (by omega) (by omega)).mono ?_
  rintro r v7 ⟨a7, M7, c7, rfl, hM, hO, hb⟩
  have HSn := Hid.in (HS.out.step hb)
  have HMn := Hid.in hM
  have HOn := Hid.in hO.lie
  have HW7 := Hid.in (hO.lower (B' := w.heap.size) (by have := HS.out.be.size; omega))
  clear hb hM hO HM HO
  clear HW6
  refine HK.out _ _ (fun _ => HSn.out) ?_
  clear HK K HS
  have HS := HSn
  have HM := HMn
  have HO := HOn
  clear HSn HMn HOn
  try simp only [Act.put, List.setIfInBounds_toArray, List.set_cons_zero, List.set_cons_succ]
  refine wpBut_one (i := 8) rfl (by kernel_rfl) (fun K HK => ?_)
  go_simp
  refine HK.out _ _ (fun h => absurd rfl h) ?_
  clear HK K
  try simp only [Act.put, List.setIfInBounds_toArray, List.set_cons_zero, List.set_cons_succ]
  refine wpBut_done (by kernel_rfl) ?_ _
  go_wp2
  go_ret
  exact ⟨_, _, _, rfl, HM.out, HW7.out, HS.out.be⟩

set_option maxHeartbeats 6400000 in
set_option maxRecDepth 20000 in
theorem qsPut_C (w : World) (c l t o e w_ v d0 d1 d2 d3 : Int) (h : Bool) (h32 : M32 (9, c, l, t, o, e, w_, v, d0, d1, d2, d3, h)) (h64 : M64 (9, c, l, t, o, e, w_, v, d0, d1, d2, d3, h)) (hr : rtP (9, c, l, t, o, e, w_, v, d0, d1, d2, d3, h)) :
    Calls Tryd.prog 14 #[.agg #[.int .i64 9, .int .i64 c, .int .i64 l, .int .i64 t, .int .i64 o, .int .i64 e, .int .i64 w_, .int .u32 v, .int .u32 d0, .int .u32 d1, .int .u32 d2, .int .u32 d3, .bool h]] w fun r w' => ∃ ao N cap, r = .returned (.slice ao N cap) ∧ N = (encM (9, c, l, t, o, e, w_, v, d0, d1, d2, d3, h)).length ∧ Own w' w.heap.size ao N cap (encM (9, c, l, t, o, e, w_, v, d0, d1, d2, d3, h)) ∧ Below w.heap.size w w' := by
  have HEN : Hid (encM (9, c, l, t, o, e, w_, v, d0, d1, d2, d3, h) = ((((([] ++ enc (zz 9)) ++ enc (zz c)) ++ enc (zz l)) ++ enc (zz e)) ++ enc (zz o))) := Hid.in (by
    have h1 := mask_eq _ hr
    rw [← h1]
    rw [show maskM (9, c, l, t, o, e, w_, v, d0, d1, d2, d3, h) = (9, c, l, 0, o, e, 0, 0, 0, 0, 0, 0, false) from rfl]
    exact encM_C rfl)
  rw [HEN.out]
  have b64 := h64
  have b32 := h32
  simp only [M64] at b64
  simp only [M32] at b32
  obtain ⟨bk, bc, bl, bt, bo, be, bw⟩ := b64
  obtain ⟨⟨bv0, bv1⟩, ⟨bd00, bd01⟩, ⟨bd10, bd11⟩, ⟨bd20, bd21⟩, bd30, bd31⟩ := b32
  have n0 := num_len (9 : Int) (by omega) (by omega)
  have n1 := num_len c (by omega) (by omega)
  have n2 := num_len l (by omega) (by omega)
  have n3 := num_len e (by omega) (by omega)
  have n4 := num_len o (by omega) (by omega)
  have hrr := fun W => qsRight_any (9, c, l, t, o, e, w_, v, d0, d1, d2, d3, h) W h64
  rw [(rtB_iff _).2 hr] at hrr
  simp only [mv] at hrr
  have HRR := Hid.in hrr
  clear hrr hr
  have HS0 : Hid (SMA w #[.int .i64 9, .int .i64 c, .int .i64 l, .int .i64 t, .int .i64 o, .int .i64 e, .int .i64 w_, .int .u32 v, .int .u32 d0, .int .u32 d1, .int .u32 d2, .int .u32 d3, .bool h] (w.alloc (.cells #[.int .i64 9, .int .i64 c, .int .i64 l, .int .i64 t, .int .i64 o, .int .i64 e, .int .i64 w_, .int .u32 v, .int .u32 d0, .int .u32 d1, .int .u32 d2, .int .u32 d3, .bool h] 28))) := Hid.in ⟨heap_alloc_new _ _, below_alloc _ _⟩
  have x0 : (w.alloc (.cells #[.int .i64 9, .int .i64 c, .int .i64 l, .int .i64 t, .int .i64 o, .int .i64 e, .int .i64 w_, .int .u32 v, .int .u32 d0, .int .u32 d1, .int .u32 d2, .int .u32 d3, .bool h] 28)).cell? ⟨w.heap.size, 0, none⟩ = some (.int .i64 9) := blk_cell HS0.out.bA rfl
  have x1 : (w.alloc (.cells #[.int .i64 9, .int .i64 c, .int .i64 l, .int .i64 t, .int .i64 o, .int .i64 e, .int .i64 w_, .int .u32 v, .int .u32 d0, .int .u32 d1, .int .u32 d2, .int .u32 d3, .bool h] 28)).cell? ⟨w.heap.size, 1, none⟩ = some (.int .i64 c) := blk_cell HS0.out.bA rfl
  have x2 : (w.alloc (.cells #[.int .i64 9, .int .i64 c, .int .i64 l, .int .i64 t, .int .i64 o, .int .i64 e, .int .i64 w_, .int .u32 v, .int .u32 d0, .int .u32 d1, .int .u32 d2, .int .u32 d3, .bool h] 28)).cell? ⟨w.heap.size, 2, none⟩ = some (.int .i64 l) := blk_cell HS0.out.bA rfl
  have x3 : (w.alloc (.cells #[.int .i64 9, .int .i64 c, .int .i64 l, .int .i64 t, .int .i64 o, .int .i64 e, .int .i64 w_, .int .u32 v, .int .u32 d0, .int .u32 d1, .int .u32 d2, .int .u32 d3, .bool h] 28)).cell? ⟨w.heap.size, 3, none⟩ = some (.int .i64 t) := blk_cell HS0.out.bA rfl
  have x4 : (w.alloc (.cells #[.int .i64 9, .int .i64 c, .int .i64 l, .int .i64 t, .int .i64 o, .int .i64 e, .int .i64 w_, .int .u32 v, .int .u32 d0, .int .u32 d1, .int .u32 d2, .int .u32 d3, .bool h] 28)).cell? ⟨w.heap.size, 4, none⟩ = some (.int .i64 o) := blk_cell HS0.out.bA rfl
  have x5 : (w.alloc (.cells #[.int .i64 9, .int .i64 c, .int .i64 l, .int .i64 t, .int .i64 o, .int .i64 e, .int .i64 w_, .int .u32 v, .int .u32 d0, .int .u32 d1, .int .u32 d2, .int .u32 d3, .bool h] 28)).cell? ⟨w.heap.size, 5, none⟩ = some (.int .i64 e) := blk_cell HS0.out.bA rfl
  have x6 : (w.alloc (.cells #[.int .i64 9, .int .i64 c, .int .i64 l, .int .i64 t, .int .i64 o, .int .i64 e, .int .i64 w_, .int .u32 v, .int .u32 d0, .int .u32 d1, .int .u32 d2, .int .u32 d3, .bool h] 28)).cell? ⟨w.heap.size, 6, none⟩ = some (.int .i64 w_) := blk_cell HS0.out.bA rfl
  have x7 : (w.alloc (.cells #[.int .i64 9, .int .i64 c, .int .i64 l, .int .i64 t, .int .i64 o, .int .i64 e, .int .i64 w_, .int .u32 v, .int .u32 d0, .int .u32 d1, .int .u32 d2, .int .u32 d3, .bool h] 28)).cell? ⟨w.heap.size, 7, none⟩ = some (.int .u32 v) := blk_cell HS0.out.bA rfl
  have x8 : (w.alloc (.cells #[.int .i64 9, .int .i64 c, .int .i64 l, .int .i64 t, .int .i64 o, .int .i64 e, .int .i64 w_, .int .u32 v, .int .u32 d0, .int .u32 d1, .int .u32 d2, .int .u32 d3, .bool h] 28)).cell? ⟨w.heap.size, 8, none⟩ = some (.int .u32 d0) := blk_cell HS0.out.bA rfl
  have x9 : (w.alloc (.cells #[.int .i64 9, .int .i64 c, .int .i64 l, .int .i64 t, .int .i64 o, .int .i64 e, .int .i64 w_, .int .u32 v, .int .u32 d0, .int .u32 d1, .int .u32 d2, .int .u32 d3, .bool h] 28)).cell? ⟨w.heap.size, 9, none⟩ = some (.int .u32 d1) := blk_cell HS0.out.bA rfl
  have x10 : (w.alloc (.cells #[.int .i64 9, .int .i64 c, .int .i64 l, .int .i64 t, .int .i64 o, .int .i64 e, .int .i64 w_, .int .u32 v, .int .u32 d0, .int .u32 d1, .int .u32 d2, .int .u32 d3, .bool h] 28)).cell? ⟨w.heap.size, 10, none⟩ = some (.int .u32 d2) := blk_cell HS0.out.bA rfl
  have x11 : (w.alloc (.cells #[.int .i64 9, .int .i64 c, .int .i64 l, .int .i64 t, .int .i64 o, .int .i64 e, .int .i64 w_, .int .u32 v, .int .u32 d0, .int .u32 d1, .int .u32 d2, .int .u32 d3, .bool h] 28)).cell? ⟨w.heap.size, 11, none⟩ = some (.int .u32 d3) := blk_cell HS0.out.bA rfl
  have x12 : (w.alloc (.cells #[.int .i64 9, .int .i64 c, .int .i64 l, .int .i64 t, .int .i64 o, .int .i64 e, .int .i64 w_, .int .u32 v, .int .u32 d0, .int .u32 d1, .int .u32 d2, .int .u32 d3, .bool h] 28)).cell? ⟨w.heap.size, 12, none⟩ = some (.bool h) := blk_cell HS0.out.bA rfl
  go_enter Tryd.func14, Tryd.ntmps14
  go_wp2_with fail
  refine (HRR.out _).mono ?_
  rintro r w1 ⟨rfl, hb⟩
  have HS := Hid.in (HS0.out.step hb)
  clear hb HS0 HRR
  clear x0 x1 x2 x3 x4 x5 x6 x7 x8 x9 x10 x11 x12
  have HFA : Hid (∀ W, SMA w #[.int .i64 9, .int .i64 c, .int .i64 l, .int .i64 t, .int .i64 o, .int .i64 e, .int .i64 w_, .int .u32 v, .int .u32 d0, .int .u32 d1, .int .u32 d2, .int .u32 d3, .bool h] W → W.cell? ⟨w.heap.size, 0, none⟩ = some (.int .i64 9) ∧ W.cell? ⟨w.heap.size, 1, none⟩ = some (.int .i64 c) ∧ W.cell? ⟨w.heap.size, 2, none⟩ = some (.int .i64 l) ∧ W.cell? ⟨w.heap.size, 3, none⟩ = some (.int .i64 t) ∧ W.cell? ⟨w.heap.size, 4, none⟩ = some (.int .i64 o) ∧ W.cell? ⟨w.heap.size, 5, none⟩ = some (.int .i64 e) ∧ W.cell? ⟨w.heap.size, 6, none⟩ = some (.int .i64 w_) ∧ W.cell? ⟨w.heap.size, 7, none⟩ = some (.int .u32 v) ∧ W.cell? ⟨w.heap.size, 8, none⟩ = some (.int .u32 d0) ∧ W.cell? ⟨w.heap.size, 9, none⟩ = some (.int .u32 d1) ∧ W.cell? ⟨w.heap.size, 10, none⟩ = some (.int .u32 d2) ∧ W.cell? ⟨w.heap.size, 11, none⟩ = some (.int .u32 d3) ∧ W.cell? ⟨w.heap.size, 12, none⟩ = some (.bool h)) := Hid.in (fun W h => ⟨blk_cell h.bA rfl, blk_cell h.bA rfl, blk_cell h.bA rfl, blk_cell h.bA rfl, blk_cell h.bA rfl, blk_cell h.bA rfl, blk_cell h.bA rfl, blk_cell h.bA rfl, blk_cell h.bA rfl, blk_cell h.bA rfl, blk_cell h.bA rfl, blk_cell h.bA rfl, blk_cell h.bA rfl⟩)
  have HO : Hid (Lie w1 none 0 []) := Hid.in (Lie.nil _)
  have HM : Hid (0 = ([] : List Nat).length) := Hid.in rfl
  go_upto_region 3 with fail
  have HSd := Hid.in (HS.out.step (Below.refl _ _).drew)
  have HOd := Hid.in (HO.out.step (Below.refl _ _).drew)
  clear HS HO
  have HS := HSd
  have HO := HOd
  clear HSd HOd
  refine wp_region_but (SMA w #[.int .i64 9, .int .i64 c, .int .i64 l, .int .i64 t, .int .i64 o, .int .i64 e, .int .i64 w_, .int .u32 v, .int .u32 d0, .int .u32 d1, .int .u32 d2, .int .u32 d3, .bool h]) 9 (by kernel_rfl) ?_
  generalize hX : w1.drew = X3 at *
  clear hX
  have HW1 : True := trivial
  refine wpBut_take (i := 0) (v := ?_) rfl (by kernel_rfl) (by kernel_rfl) (by exact fun _ _ _ h => h) HS.out (Or.inl ⟨by rfl, ?_⟩) ?_
  case refine_2 => (intro W _; go_simp; try with_reducible rfl)
  simp only [Act.put, List.setIfInBounds_toArray, List.set_cons_zero, List.set_cons_succ]
  refine wpBut_take (i := 1) (v := ?_) rfl (by kernel_rfl) (by kernel_rfl) (by exact fun _ _ _ h => h) HS.out (Or.inl ⟨by rfl, ?_⟩) ?_
  case refine_2 => (intro W hSw; obtain ⟨s0, s1, s2, s3, s4, s5, s6, s7, s8, s9, s10, s11, s12⟩ := HFA.out W hSw; go_simp; try with_reducible rfl)
  simp only [Act.put, List.setIfInBounds_toArray, List.set_cons_zero, List.set_cons_succ]
  refine wpBut_take (i := 3) (v := ?_) rfl (by kernel_rfl) (by kernel_rfl) (by exact fun _ _ _ h => h) HS.out (Or.inl ⟨by rfl, ?_⟩) ?_
  case refine_2 => (intro W _; go_simp; try with_reducible rfl)
  simp only [Act.put, List.setIfInBounds_toArray, List.set_cons_zero, List.set_cons_succ]
  refine wpBut_take (i := 4) (v := ?_) rfl (by kernel_rfl) (by kernel_rfl) (by exact fun _ _ _ h => h) HS.out (Or.inl ⟨by rfl, ?_⟩) ?_
  case refine_2 => (intro W hSw; obtain ⟨s0, s1, s2, s3, s4, s5, s6, s7, s8, s9, s10, s11, s12⟩ := HFA.out W hSw; go_simp; try with_reducible rfl)
  simp only [Act.put, List.setIfInBounds_toArray, List.set_cons_zero, List.set_cons_succ]
  refine wpBut_take (i := 6) (v := ?_) rfl (by kernel_rfl) (by kernel_rfl) (by exact fun _ _ _ h => h) HS.out (Or.inl ⟨by rfl, ?_⟩) ?_
  case refine_2 => (intro W _; go_simp; try with_reducible rfl)
  simp only [Act.put, List.setIfInBounds_toArray, List.set_cons_zero, List.set_cons_succ]
  refine wpBut_take (i := 7) (v := ?_) rfl (by kernel_rfl) (by kernel_rfl) (by exact fun _ _ _ h => h) HS.out (Or.inl ⟨by rfl, ?_⟩) ?_
  case refine_2 => (intro W hSw; obtain ⟨s0, s1, s2, s3, s4, s5, s6, s7, s8, s9, s10, s11, s12⟩ := HFA.out W hSw; go_simp; try with_reducible rfl)
  simp only [Act.put, List.setIfInBounds_toArray, List.set_cons_zero, List.set_cons_succ]
  refine wpBut_one (i := 2) rfl (by kernel_rfl) (fun K HK => ?_)
  go_simp
  refine (qnum_o none 0 0 [] 9 _ HM.out HO.out (by first | exact Nat.zero_le _ | (simp only [List.length_append, List.length_nil]; omega)) (by omega) (by omega)).mono ?_
  rintro r v2 ⟨a2, M2, c2, rfl, hM, hO, hb⟩
  have HSn := Hid.in (HS.out.step hb)
  have HMn := Hid.in hM
  have HOn := Hid.in hO.lie
  have HW2 := Hid.in (hO.lower (B' := w.heap.size) (by have := HS.out.be.size; omega))
  clear hb hM hO HM HO
  clear HW1
  refine HK.out _ _ (fun _ => HSn.out) ?_
  clear HK K HS
  have HS := HSn
  have HM := HMn
  have HO := HOn
  clear HSn HMn HOn
  try simp only [Act.put, List.setIfInBounds_toArray, List.set_cons_zero, List.set_cons_succ]
  refine wpBut_one (i := 5) rfl (by kernel_rfl) (fun K HK => ?_)
  go_simp
  refine (qnum_o a2 M2 c2 ([] ++ enc (zz 9)) c _ HM.out HO.out (by first | exact Nat.zero_le _ | (simp only [List.length_append, List.length_nil]; omega)) (by omega) (by omega)).mono ?_
  rintro r v3 ⟨a3, M3, c3, rfl, hM, hO, hb⟩
  have HSn := Hid.in (HS.out.step hb)
  have HMn := Hid.in hM
  have HOn := Hid.in hO.lie
  have HW3 := Hid.in (hO.lower (B' := w.heap.size) (by have := HS.out.be.size; omega))
  clear hb hM hO HM HO
  clear HW2
  refine HK.out _ _ (fun _ => HSn.out) ?_
  clear HK K HS
  have HS := HSn
  have HM := HMn
  have HO := HOn
  clear HSn HMn HOn
  try simp only [Act.put, List.setIfInBounds_toArray, List.set_cons_zero, List.set_cons_succ]
  refine wpBut_one (i := 8) rfl (by kernel_rfl) (fun K HK => ?_)
  go_simp
  refine (qnum_o a3 M3 c3 (([] ++ enc (zz 9)) ++ enc (zz c)) l _ HM.out HO.out (by first | exact Nat.zero_le _ | (simp only [List.length_append, List.length_nil]; omega)) (by omega) (by omega)).mono ?_
  rintro r v4 ⟨a4, M4, c4, rfl, hM, hO, hb⟩
  have HSn := Hid.in (HS.out.step hb)
  have HMn := Hid.in hM
  have HOn := Hid.in hO.lie
  have HW4 := Hid.in (hO.lower (B' := w.heap.size) (by have := HS.out.be.size; omega))
  clear hb hM hO HM HO
  clear HW3
  refine HK.out _ _ (fun _ => HSn.out) ?_
  clear HK K HS
  have HS := HSn
  have HM := HMn
  have HO := HOn
  clear HSn HMn HOn
  try simp only [Act.put, List.setIfInBounds_toArray, List.set_cons_zero, List.set_cons_succ]
  refine wpBut_one (i := 9) rfl (by kernel_rfl) (fun K HK => ?_)
  go_simp
  refine HK.out _ _ (fun h => absurd rfl h) ?_
  clear HK K
  try simp only [Act.put, List.setIfInBounds_toArray, List.set_cons_zero, List.set_cons_succ]
  refine wpBut_done (by kernel_rfl) ?_ _
  have x0 : v4.cell? ⟨w.heap.size, 0, none⟩ = some (.int .i64 9) := blk_cell HS.out.bA rfl
  have x5 : v4.cell? ⟨w.heap.size, 5, none⟩ = some (.int .i64 e) := blk_cell HS.out.bA rfl
  go_wp2_with fail
  refine (qnum_o a4 M4 c4 ((([] ++ enc (zz 9)) ++ enc (zz c)) ++ enc (zz l)) e _ HM.out HO.out (by first | exact Nat.zero_le _ | (simp only [List.length_append, List.length_nil]; omega)) (by omega) (by omega)).mono ?_
  rintro r v5 ⟨a5, M5, c5, rfl, hM, hO, hb⟩
  have HSn := Hid.in (HS.out.step hb)
  have HMn := Hid.in hM
  have HOn := Hid.in hO.lie
  have HW5 := Hid.in (hO.lower (B' := w.heap.size) (by have := HS.out.be.size; omega))
  clear hb hM hO HM HO
  clear HW4
  clear HS
  have HS := HSn
  have HM := HMn
  have HO := HOn
  clear HSn HMn HOn
  have x4 : v5.cell? ⟨w.heap.size, 4, none⟩ = some (.int .i64 o) := blk_cell HS.out.bA rfl
  go_wp2_with fail
  refine (qnum_o a5 M5 c5 (((([] ++ enc (zz 9)) ++ enc (zz c)) ++ enc (zz l)) ++ enc (zz e)) o _ HM.out HO.out (by first | exact Nat.zero_le _ | (simp only [List.length_append, List.length_nil]; omega)) (by omega) (by omega)).mono ?_
  rintro r v6 ⟨a6, M6, c6, rfl, hM, hO, hb⟩
  have HSn := Hid.in (HS.out.step hb)
  have HMn := Hid.in hM
  have HOn := Hid.in hO.lie
  have HW6 := Hid.in (hO.lower (B' := w.heap.size) (by have := HS.out.be.size; omega))
  clear hb hM hO HM HO
  clear HW5
  clear HS
  have HS := HSn
  have HM := HMn
  have HO := HOn
  clear HSn HMn HOn
  go_wp2
  go_ret
  exact ⟨_, _, _, rfl, HM.out, HW6.out, HS.out.be⟩

set_option maxHeartbeats 6400000 in
set_option maxRecDepth 20000 in
theorem qsPut_S (w : World) (c l t o e w_ v d0 d1 d2 d3 : Int) (h : Bool) (h32 : M32 (5, c, l, t, o, e, w_, v, d0, d1, d2, d3, h)) (h64 : M64 (5, c, l, t, o, e, w_, v, d0, d1, d2, d3, h)) (hr : rtP (5, c, l, t, o, e, w_, v, d0, d1, d2, d3, h)) :
    Calls Tryd.prog 14 #[.agg #[.int .i64 5, .int .i64 c, .int .i64 l, .int .i64 t, .int .i64 o, .int .i64 e, .int .i64 w_, .int .u32 v, .int .u32 d0, .int .u32 d1, .int .u32 d2, .int .u32 d3, .bool h]] w fun r w' => ∃ ao N cap, r = .returned (.slice ao N cap) ∧ N = (encM (5, c, l, t, o, e, w_, v, d0, d1, d2, d3, h)).length ∧ Own w' w.heap.size ao N cap (encM (5, c, l, t, o, e, w_, v, d0, d1, d2, d3, h)) ∧ Below w.heap.size w w' := by
  have HEN : Hid (encM (5, c, l, t, o, e, w_, v, d0, d1, d2, d3, h) = (((([] ++ enc (zz 5)) ++ enc (zz c)) ++ enc (zz l)) ++ enc (zz o))) := Hid.in (by
    have h1 := mask_eq _ hr
    rw [← h1]
    rw [show maskM (5, c, l, t, o, e, w_, v, d0, d1, d2, d3, h) = (5, c, l, 0, o, 0, 0, 0, 0, 0, 0, 0, false) from rfl]
    exact encM_S rfl)
  rw [HEN.out]
  have b64 := h64
  have b32 := h32
  simp only [M64] at b64
  simp only [M32] at b32
  obtain ⟨bk, bc, bl, bt, bo, be, bw⟩ := b64
  obtain ⟨⟨bv0, bv1⟩, ⟨bd00, bd01⟩, ⟨bd10, bd11⟩, ⟨bd20, bd21⟩, bd30, bd31⟩ := b32
  have n0 := num_len (5 : Int) (by omega) (by omega)
  have n1 := num_len c (by omega) (by omega)
  have n2 := num_len l (by omega) (by omega)
  have n3 := num_len o (by omega) (by omega)
  have hrr := fun W => qsRight_any (5, c, l, t, o, e, w_, v, d0, d1, d2, d3, h) W h64
  rw [(rtB_iff _).2 hr] at hrr
  simp only [mv] at hrr
  have HRR := Hid.in hrr
  clear hrr hr
  have HS0 : Hid (SMA w #[.int .i64 5, .int .i64 c, .int .i64 l, .int .i64 t, .int .i64 o, .int .i64 e, .int .i64 w_, .int .u32 v, .int .u32 d0, .int .u32 d1, .int .u32 d2, .int .u32 d3, .bool h] (w.alloc (.cells #[.int .i64 5, .int .i64 c, .int .i64 l, .int .i64 t, .int .i64 o, .int .i64 e, .int .i64 w_, .int .u32 v, .int .u32 d0, .int .u32 d1, .int .u32 d2, .int .u32 d3, .bool h] 28))) := Hid.in ⟨heap_alloc_new _ _, below_alloc _ _⟩
  have x0 : (w.alloc (.cells #[.int .i64 5, .int .i64 c, .int .i64 l, .int .i64 t, .int .i64 o, .int .i64 e, .int .i64 w_, .int .u32 v, .int .u32 d0, .int .u32 d1, .int .u32 d2, .int .u32 d3, .bool h] 28)).cell? ⟨w.heap.size, 0, none⟩ = some (.int .i64 5) := blk_cell HS0.out.bA rfl
  have x1 : (w.alloc (.cells #[.int .i64 5, .int .i64 c, .int .i64 l, .int .i64 t, .int .i64 o, .int .i64 e, .int .i64 w_, .int .u32 v, .int .u32 d0, .int .u32 d1, .int .u32 d2, .int .u32 d3, .bool h] 28)).cell? ⟨w.heap.size, 1, none⟩ = some (.int .i64 c) := blk_cell HS0.out.bA rfl
  have x2 : (w.alloc (.cells #[.int .i64 5, .int .i64 c, .int .i64 l, .int .i64 t, .int .i64 o, .int .i64 e, .int .i64 w_, .int .u32 v, .int .u32 d0, .int .u32 d1, .int .u32 d2, .int .u32 d3, .bool h] 28)).cell? ⟨w.heap.size, 2, none⟩ = some (.int .i64 l) := blk_cell HS0.out.bA rfl
  have x3 : (w.alloc (.cells #[.int .i64 5, .int .i64 c, .int .i64 l, .int .i64 t, .int .i64 o, .int .i64 e, .int .i64 w_, .int .u32 v, .int .u32 d0, .int .u32 d1, .int .u32 d2, .int .u32 d3, .bool h] 28)).cell? ⟨w.heap.size, 3, none⟩ = some (.int .i64 t) := blk_cell HS0.out.bA rfl
  have x4 : (w.alloc (.cells #[.int .i64 5, .int .i64 c, .int .i64 l, .int .i64 t, .int .i64 o, .int .i64 e, .int .i64 w_, .int .u32 v, .int .u32 d0, .int .u32 d1, .int .u32 d2, .int .u32 d3, .bool h] 28)).cell? ⟨w.heap.size, 4, none⟩ = some (.int .i64 o) := blk_cell HS0.out.bA rfl
  have x5 : (w.alloc (.cells #[.int .i64 5, .int .i64 c, .int .i64 l, .int .i64 t, .int .i64 o, .int .i64 e, .int .i64 w_, .int .u32 v, .int .u32 d0, .int .u32 d1, .int .u32 d2, .int .u32 d3, .bool h] 28)).cell? ⟨w.heap.size, 5, none⟩ = some (.int .i64 e) := blk_cell HS0.out.bA rfl
  have x6 : (w.alloc (.cells #[.int .i64 5, .int .i64 c, .int .i64 l, .int .i64 t, .int .i64 o, .int .i64 e, .int .i64 w_, .int .u32 v, .int .u32 d0, .int .u32 d1, .int .u32 d2, .int .u32 d3, .bool h] 28)).cell? ⟨w.heap.size, 6, none⟩ = some (.int .i64 w_) := blk_cell HS0.out.bA rfl
  have x7 : (w.alloc (.cells #[.int .i64 5, .int .i64 c, .int .i64 l, .int .i64 t, .int .i64 o, .int .i64 e, .int .i64 w_, .int .u32 v, .int .u32 d0, .int .u32 d1, .int .u32 d2, .int .u32 d3, .bool h] 28)).cell? ⟨w.heap.size, 7, none⟩ = some (.int .u32 v) := blk_cell HS0.out.bA rfl
  have x8 : (w.alloc (.cells #[.int .i64 5, .int .i64 c, .int .i64 l, .int .i64 t, .int .i64 o, .int .i64 e, .int .i64 w_, .int .u32 v, .int .u32 d0, .int .u32 d1, .int .u32 d2, .int .u32 d3, .bool h] 28)).cell? ⟨w.heap.size, 8, none⟩ = some (.int .u32 d0) := blk_cell HS0.out.bA rfl
  have x9 : (w.alloc (.cells #[.int .i64 5, .int .i64 c, .int .i64 l, .int .i64 t, .int .i64 o, .int .i64 e, .int .i64 w_, .int .u32 v, .int .u32 d0, .int .u32 d1, .int .u32 d2, .int .u32 d3, .bool h] 28)).cell? ⟨w.heap.size, 9, none⟩ = some (.int .u32 d1) := blk_cell HS0.out.bA rfl
  have x10 : (w.alloc (.cells #[.int .i64 5, .int .i64 c, .int .i64 l, .int .i64 t, .int .i64 o, .int .i64 e, .int .i64 w_, .int .u32 v, .int .u32 d0, .int .u32 d1, .int .u32 d2, .int .u32 d3, .bool h] 28)).cell? ⟨w.heap.size, 10, none⟩ = some (.int .u32 d2) := blk_cell HS0.out.bA rfl
  have x11 : (w.alloc (.cells #[.int .i64 5, .int .i64 c, .int .i64 l, .int .i64 t, .int .i64 o, .int .i64 e, .int .i64 w_, .int .u32 v, .int .u32 d0, .int .u32 d1, .int .u32 d2, .int .u32 d3, .bool h] 28)).cell? ⟨w.heap.size, 11, none⟩ = some (.int .u32 d3) := blk_cell HS0.out.bA rfl
  have x12 : (w.alloc (.cells #[.int .i64 5, .int .i64 c, .int .i64 l, .int .i64 t, .int .i64 o, .int .i64 e, .int .i64 w_, .int .u32 v, .int .u32 d0, .int .u32 d1, .int .u32 d2, .int .u32 d3, .bool h] 28)).cell? ⟨w.heap.size, 12, none⟩ = some (.bool h) := blk_cell HS0.out.bA rfl
  go_enter Tryd.func14, Tryd.ntmps14
  go_wp2_with fail
  refine (HRR.out _).mono ?_
  rintro r w1 ⟨rfl, hb⟩
  have HS := Hid.in (HS0.out.step hb)
  clear hb HS0 HRR
  clear x0 x1 x2 x3 x4 x5 x6 x7 x8 x9 x10 x11 x12
  have HFA : Hid (∀ W, SMA w #[.int .i64 5, .int .i64 c, .int .i64 l, .int .i64 t, .int .i64 o, .int .i64 e, .int .i64 w_, .int .u32 v, .int .u32 d0, .int .u32 d1, .int .u32 d2, .int .u32 d3, .bool h] W → W.cell? ⟨w.heap.size, 0, none⟩ = some (.int .i64 5) ∧ W.cell? ⟨w.heap.size, 1, none⟩ = some (.int .i64 c) ∧ W.cell? ⟨w.heap.size, 2, none⟩ = some (.int .i64 l) ∧ W.cell? ⟨w.heap.size, 3, none⟩ = some (.int .i64 t) ∧ W.cell? ⟨w.heap.size, 4, none⟩ = some (.int .i64 o) ∧ W.cell? ⟨w.heap.size, 5, none⟩ = some (.int .i64 e) ∧ W.cell? ⟨w.heap.size, 6, none⟩ = some (.int .i64 w_) ∧ W.cell? ⟨w.heap.size, 7, none⟩ = some (.int .u32 v) ∧ W.cell? ⟨w.heap.size, 8, none⟩ = some (.int .u32 d0) ∧ W.cell? ⟨w.heap.size, 9, none⟩ = some (.int .u32 d1) ∧ W.cell? ⟨w.heap.size, 10, none⟩ = some (.int .u32 d2) ∧ W.cell? ⟨w.heap.size, 11, none⟩ = some (.int .u32 d3) ∧ W.cell? ⟨w.heap.size, 12, none⟩ = some (.bool h)) := Hid.in (fun W h => ⟨blk_cell h.bA rfl, blk_cell h.bA rfl, blk_cell h.bA rfl, blk_cell h.bA rfl, blk_cell h.bA rfl, blk_cell h.bA rfl, blk_cell h.bA rfl, blk_cell h.bA rfl, blk_cell h.bA rfl, blk_cell h.bA rfl, blk_cell h.bA rfl, blk_cell h.bA rfl, blk_cell h.bA rfl⟩)
  have HO : Hid (Lie w1 none 0 []) := Hid.in (Lie.nil _)
  have HM : Hid (0 = ([] : List Nat).length) := Hid.in rfl
  go_upto_region 3 with fail
  have HSd := Hid.in (HS.out.step (Below.refl _ _).drew)
  have HOd := Hid.in (HO.out.step (Below.refl _ _).drew)
  clear HS HO
  have HS := HSd
  have HO := HOd
  clear HSd HOd
  refine wp_region_but (SMA w #[.int .i64 5, .int .i64 c, .int .i64 l, .int .i64 t, .int .i64 o, .int .i64 e, .int .i64 w_, .int .u32 v, .int .u32 d0, .int .u32 d1, .int .u32 d2, .int .u32 d3, .bool h]) 9 (by kernel_rfl) ?_
  generalize hX : w1.drew = X3 at *
  clear hX
  have HW1 : True := trivial
  refine wpBut_take (i := 0) (v := ?_) rfl (by kernel_rfl) (by kernel_rfl) (by exact fun _ _ _ h => h) HS.out (Or.inl ⟨by rfl, ?_⟩) ?_
  case refine_2 => (intro W _; go_simp; try with_reducible rfl)
  simp only [Act.put, List.setIfInBounds_toArray, List.set_cons_zero, List.set_cons_succ]
  refine wpBut_take (i := 1) (v := ?_) rfl (by kernel_rfl) (by kernel_rfl) (by exact fun _ _ _ h => h) HS.out (Or.inl ⟨by rfl, ?_⟩) ?_
  case refine_2 => (intro W hSw; obtain ⟨s0, s1, s2, s3, s4, s5, s6, s7, s8, s9, s10, s11, s12⟩ := HFA.out W hSw; go_simp; try with_reducible rfl)
  simp only [Act.put, List.setIfInBounds_toArray, List.set_cons_zero, List.set_cons_succ]
  refine wpBut_take (i := 3) (v := ?_) rfl (by kernel_rfl) (by kernel_rfl) (by exact fun _ _ _ h => h) HS.out (Or.inl ⟨by rfl, ?_⟩) ?_
  case refine_2 => (intro W _; go_simp; try with_reducible rfl)
  simp only [Act.put, List.setIfInBounds_toArray, List.set_cons_zero, List.set_cons_succ]
  refine wpBut_take (i := 4) (v := ?_) rfl (by kernel_rfl) (by kernel_rfl) (by exact fun _ _ _ h => h) HS.out (Or.inl ⟨by rfl, ?_⟩) ?_
  case refine_2 => (intro W hSw; obtain ⟨s0, s1, s2, s3, s4, s5, s6, s7, s8, s9, s10, s11, s12⟩ := HFA.out W hSw; go_simp; try with_reducible rfl)
  simp only [Act.put, List.setIfInBounds_toArray, List.set_cons_zero, List.set_cons_succ]
  refine wpBut_take (i := 6) (v := ?_) rfl (by kernel_rfl) (by kernel_rfl) (by exact fun _ _ _ h => h) HS.out (Or.inl ⟨by rfl, ?_⟩) ?_
  case refine_2 => (intro W _; go_simp; try with_reducible rfl)
  simp only [Act.put, List.setIfInBounds_toArray, List.set_cons_zero, List.set_cons_succ]
  refine wpBut_take (i := 7) (v := ?_) rfl (by kernel_rfl) (by kernel_rfl) (by exact fun _ _ _ h => h) HS.out (Or.inl ⟨by rfl, ?_⟩) ?_
  case refine_2 => (intro W hSw; obtain ⟨s0, s1, s2, s3, s4, s5, s6, s7, s8, s9, s10, s11, s12⟩ := HFA.out W hSw; go_simp; try with_reducible rfl)
  simp only [Act.put, List.setIfInBounds_toArray, List.set_cons_zero, List.set_cons_succ]
  refine wpBut_one (i := 2) rfl (by kernel_rfl) (fun K HK => ?_)
  go_simp
  refine (qnum_o none 0 0 [] 5 _ HM.out HO.out (by first | exact Nat.zero_le _ | (simp only [List.length_append, List.length_nil]; omega)) (by omega) (by omega)).mono ?_
  rintro r v2 ⟨a2, M2, c2, rfl, hM, hO, hb⟩
  have HSn := Hid.in (HS.out.step hb)
  have HMn := Hid.in hM
  have HOn := Hid.in hO.lie
  have HW2 := Hid.in (hO.lower (B' := w.heap.size) (by have := HS.out.be.size; omega))
  clear hb hM hO HM HO
  clear HW1
  refine HK.out _ _ (fun _ => HSn.out) ?_
  clear HK K HS
  have HS := HSn
  have HM := HMn
  have HO := HOn
  clear HSn HMn HOn
  try simp only [Act.put, List.setIfInBounds_toArray, List.set_cons_zero, List.set_cons_succ]
  refine wpBut_one (i := 5) rfl (by kernel_rfl) (fun K HK => ?_)
  go_simp
  refine (qnum_o a2 M2 c2 ([] ++ enc (zz 5)) c _ HM.out HO.out (by first | exact Nat.zero_le _ | (simp only [List.length_append, List.length_nil]; omega)) (by omega) (by omega)).mono ?_
  rintro r v3 ⟨a3, M3, c3, rfl, hM, hO, hb⟩
  have HSn := Hid.in (HS.out.step hb)
  have HMn := Hid.in hM
  have HOn := Hid.in hO.lie
  have HW3 := Hid.in (hO.lower (B' := w.heap.size) (by have := HS.out.be.size; omega))
  clear hb hM hO HM HO
  clear HW2
  refine HK.out _ _ (fun _ => HSn.out) ?_
  clear HK K HS
  have HS := HSn
  have HM := HMn
  have HO := HOn
  clear HSn HMn HOn
  try simp only [Act.put, List.setIfInBounds_toArray, List.set_cons_zero, List.set_cons_succ]
  refine wpBut_one (i := 8) rfl (by kernel_rfl) (fun K HK => ?_)
  go_simp
  refine (qnum_o a3 M3 c3 (([] ++ enc (zz 5)) ++ enc (zz c)) l _ HM.out HO.out (by first | exact Nat.zero_le _ | (simp only [List.length_append, List.length_nil]; omega)) (by omega) (by omega)).mono ?_
  rintro r v4 ⟨a4, M4, c4, rfl, hM, hO, hb⟩
  have HSn := Hid.in (HS.out.step hb)
  have HMn := Hid.in hM
  have HOn := Hid.in hO.lie
  have HW4 := Hid.in (hO.lower (B' := w.heap.size) (by have := HS.out.be.size; omega))
  clear hb hM hO HM HO
  clear HW3
  refine HK.out _ _ (fun _ => HSn.out) ?_
  clear HK K HS
  have HS := HSn
  have HM := HMn
  have HO := HOn
  clear HSn HMn HOn
  try simp only [Act.put, List.setIfInBounds_toArray, List.set_cons_zero, List.set_cons_succ]
  refine wpBut_one (i := 9) rfl (by kernel_rfl) (fun K HK => ?_)
  go_simp
  refine HK.out _ _ (fun h => absurd rfl h) ?_
  clear HK K
  try simp only [Act.put, List.setIfInBounds_toArray, List.set_cons_zero, List.set_cons_succ]
  refine wpBut_done (by kernel_rfl) ?_ _
  have x0 : v4.cell? ⟨w.heap.size, 0, none⟩ = some (.int .i64 5) := blk_cell HS.out.bA rfl
  have x4 : v4.cell? ⟨w.heap.size, 4, none⟩ = some (.int .i64 o) := blk_cell HS.out.bA rfl
  go_wp2_with fail
  refine (qnum_o a4 M4 c4 ((([] ++ enc (zz 5)) ++ enc (zz c)) ++ enc (zz l)) o _ HM.out HO.out (by first | exact Nat.zero_le _ | (simp only [List.length_append, List.length_nil]; omega)) (by omega) (by omega)).mono ?_
  rintro r v5 ⟨a5, M5, c5, rfl, hM, hO, hb⟩
  have HSn := Hid.in (HS.out.step hb)
  have HMn := Hid.in hM
  have HOn := Hid.in hO.lie
  have HW5 := Hid.in (hO.lower (B' := w.heap.size) (by have := HS.out.be.size; omega))
  clear hb hM hO HM HO
  clear HW4
  clear HS
  have HS := HSn
  have HM := HMn
  have HO := HOn
  clear HSn HMn HOn
  go_wp2
  go_ret
  exact ⟨_, _, _, rfl, HM.out, HW5.out, HS.out.be⟩

set_option maxHeartbeats 6400000 in
set_option maxRecDepth 20000 in
theorem qsPut_D0 (w : World) (c l t o e w_ v d0 d1 d2 d3 : Int) (h32 : M32 (13, c, l, t, o, e, w_, v, d0, d1, d2, d3, false)) (h64 : M64 (13, c, l, t, o, e, w_, v, d0, d1, d2, d3, false)) (hr : rtP (13, c, l, t, o, e, w_, v, d0, d1, d2, d3, false)) :
    Calls Tryd.prog 14 #[.agg #[.int .i64 13, .int .i64 c, .int .i64 l, .int .i64 t, .int .i64 o, .int .i64 e, .int .i64 w_, .int .u32 v, .int .u32 d0, .int .u32 d1, .int .u32 d2, .int .u32 d3, .bool false]] w fun r w' => ∃ ao N cap, r = .returned (.slice ao N cap) ∧ N = (encM (13, c, l, t, o, e, w_, v, d0, d1, d2, d3, false)).length ∧ Own w' w.heap.size ao N cap (encM (13, c, l, t, o, e, w_, v, d0, d1, d2, d3, false)) ∧ Below w.heap.size w w' := by
  have HEN : Hid (encM (13, c, l, t, o, e, w_, v, d0, d1, d2, d3, false) = ((((((([] ++ enc (zz 13)) ++ enc (zz c)) ++ enc (zz l)) ++ enc (zz o)) ++ enc (zz e)) ++ enc (zz t)) ++ enc (zz 0))) := Hid.in (by
    have h1 := mask_eq _ hr
    have h2 : d0 = 0 ∧ d1 = 0 ∧ d2 = 0 ∧ d3 = 0 := by simp [rtP] at hr; omega
    obtain ⟨rfl, rfl, rfl, rfl⟩ := h2
    rw [← h1]
    rw [show maskM (13, c, l, t, o, e, w_, v, 0, 0, 0, 0, false) = (13, c, l, t, o, e, 0, 0, 0, 0, 0, 0, false) from rfl]
    exact encM_D0 rfl)
  rw [HEN.out]
  have b64 := h64
  have b32 := h32
  simp only [M64] at b64
  simp only [M32] at b32
  obtain ⟨bk, bc, bl, bt, bo, be, bw⟩ := b64
  obtain ⟨⟨bv0, bv1⟩, ⟨bd00, bd01⟩, ⟨bd10, bd11⟩, ⟨bd20, bd21⟩, bd30, bd31⟩ := b32
  have n0 := num_len (13 : Int) (by omega) (by omega)
  have n1 := num_len c (by omega) (by omega)
  have n2 := num_len l (by omega) (by omega)
  have n3 := num_len o (by omega) (by omega)
  have n4 := num_len e (by omega) (by omega)
  have n5 := num_len t (by omega) (by omega)
  have n6 := num_len (0 : Int) (by omega) (by omega)
  have hrr := fun W => qsRight_any (13, c, l, t, o, e, w_, v, d0, d1, d2, d3, false) W h64
  rw [(rtB_iff _).2 hr] at hrr
  simp only [mv] at hrr
  have HRR := Hid.in hrr
  clear hrr hr
  have HS0 : Hid (SMA w #[.int .i64 13, .int .i64 c, .int .i64 l, .int .i64 t, .int .i64 o, .int .i64 e, .int .i64 w_, .int .u32 v, .int .u32 d0, .int .u32 d1, .int .u32 d2, .int .u32 d3, .bool false] (w.alloc (.cells #[.int .i64 13, .int .i64 c, .int .i64 l, .int .i64 t, .int .i64 o, .int .i64 e, .int .i64 w_, .int .u32 v, .int .u32 d0, .int .u32 d1, .int .u32 d2, .int .u32 d3, .bool false] 28))) := Hid.in ⟨heap_alloc_new _ _, below_alloc _ _⟩
  have x0 : (w.alloc (.cells #[.int .i64 13, .int .i64 c, .int .i64 l, .int .i64 t, .int .i64 o, .int .i64 e, .int .i64 w_, .int .u32 v, .int .u32 d0, .int .u32 d1, .int .u32 d2, .int .u32 d3, .bool false] 28)).cell? ⟨w.heap.size, 0, none⟩ = some (.int .i64 13) := blk_cell HS0.out.bA rfl
  have x1 : (w.alloc (.cells #[.int .i64 13, .int .i64 c, .int .i64 l, .int .i64 t, .int .i64 o, .int .i64 e, .int .i64 w_, .int .u32 v, .int .u32 d0, .int .u32 d1, .int .u32 d2, .int .u32 d3, .bool false] 28)).cell? ⟨w.heap.size, 1, none⟩ = some (.int .i64 c) := blk_cell HS0.out.bA rfl
  have x2 : (w.alloc (.cells #[.int .i64 13, .int .i64 c, .int .i64 l, .int .i64 t, .int .i64 o, .int .i64 e, .int .i64 w_, .int .u32 v, .int .u32 d0, .int .u32 d1, .int .u32 d2, .int .u32 d3, .bool false] 28)).cell? ⟨w.heap.size, 2, none⟩ = some (.int .i64 l) := blk_cell HS0.out.bA rfl
  have x3 : (w.alloc (.cells #[.int .i64 13, .int .i64 c, .int .i64 l, .int .i64 t, .int .i64 o, .int .i64 e, .int .i64 w_, .int .u32 v, .int .u32 d0, .int .u32 d1, .int .u32 d2, .int .u32 d3, .bool false] 28)).cell? ⟨w.heap.size, 3, none⟩ = some (.int .i64 t) := blk_cell HS0.out.bA rfl
  have x4 : (w.alloc (.cells #[.int .i64 13, .int .i64 c, .int .i64 l, .int .i64 t, .int .i64 o, .int .i64 e, .int .i64 w_, .int .u32 v, .int .u32 d0, .int .u32 d1, .int .u32 d2, .int .u32 d3, .bool false] 28)).cell? ⟨w.heap.size, 4, none⟩ = some (.int .i64 o) := blk_cell HS0.out.bA rfl
  have x5 : (w.alloc (.cells #[.int .i64 13, .int .i64 c, .int .i64 l, .int .i64 t, .int .i64 o, .int .i64 e, .int .i64 w_, .int .u32 v, .int .u32 d0, .int .u32 d1, .int .u32 d2, .int .u32 d3, .bool false] 28)).cell? ⟨w.heap.size, 5, none⟩ = some (.int .i64 e) := blk_cell HS0.out.bA rfl
  have x6 : (w.alloc (.cells #[.int .i64 13, .int .i64 c, .int .i64 l, .int .i64 t, .int .i64 o, .int .i64 e, .int .i64 w_, .int .u32 v, .int .u32 d0, .int .u32 d1, .int .u32 d2, .int .u32 d3, .bool false] 28)).cell? ⟨w.heap.size, 6, none⟩ = some (.int .i64 w_) := blk_cell HS0.out.bA rfl
  have x7 : (w.alloc (.cells #[.int .i64 13, .int .i64 c, .int .i64 l, .int .i64 t, .int .i64 o, .int .i64 e, .int .i64 w_, .int .u32 v, .int .u32 d0, .int .u32 d1, .int .u32 d2, .int .u32 d3, .bool false] 28)).cell? ⟨w.heap.size, 7, none⟩ = some (.int .u32 v) := blk_cell HS0.out.bA rfl
  have x8 : (w.alloc (.cells #[.int .i64 13, .int .i64 c, .int .i64 l, .int .i64 t, .int .i64 o, .int .i64 e, .int .i64 w_, .int .u32 v, .int .u32 d0, .int .u32 d1, .int .u32 d2, .int .u32 d3, .bool false] 28)).cell? ⟨w.heap.size, 8, none⟩ = some (.int .u32 d0) := blk_cell HS0.out.bA rfl
  have x9 : (w.alloc (.cells #[.int .i64 13, .int .i64 c, .int .i64 l, .int .i64 t, .int .i64 o, .int .i64 e, .int .i64 w_, .int .u32 v, .int .u32 d0, .int .u32 d1, .int .u32 d2, .int .u32 d3, .bool false] 28)).cell? ⟨w.heap.size, 9, none⟩ = some (.int .u32 d1) := blk_cell HS0.out.bA rfl
  have x10 : (w.alloc (.cells #[.int .i64 13, .int .i64 c, .int .i64 l, .int .i64 t, .int .i64 o, .int .i64 e, .int .i64 w_, .int .u32 v, .int .u32 d0, .int .u32 d1, .int .u32 d2, .int .u32 d3, .bool false] 28)).cell? ⟨w.heap.size, 10, none⟩ = some (.int .u32 d2) := blk_cell HS0.out.bA rfl
  have x11 : (w.alloc (.cells #[.int .i64 13, .int .i64 c, .int .i64 l, .int .i64 t, .int .i64 o, .int .i64 e, .int .i64 w_, .int .u32 v, .int .u32 d0, .int .u32 d1, .int .u32 d2, .int .u32 d3, .bool false] 28)).cell? ⟨w.heap.size, 11, none⟩ = some (.int .u32 d3) := blk_cell HS0.out.bA rfl
  have x12 : (w.alloc (.cells #[.int .i64 13, .int .i64 c, .int .i64 l, .int .i64 t, .int .i64 o, .int .i64 e, .int .i64 w_, .int .u32 v, .int .u32 d0, .int .u32 d1, .int .u32 d2, .int .u32 d3, .bool false] 28)).cell? ⟨w.heap.size, 12, none⟩ = some (.bool false) := blk_cell HS0.out.bA rfl
  go_enter Tryd.func14, Tryd.ntmps14
  go_wp2_with fail
  refine (HRR.out _).mono ?_
  rintro r w1 ⟨rfl, hb⟩
  have HS := Hid.in (HS0.out.step hb)
  clear hb HS0 HRR
  clear x0 x1 x2 x3 x4 x5 x6 x7 x8 x9 x10 x11 x12
  have HFA : Hid (∀ W, SMA w #[.int .i64 13, .int .i64 c, .int .i64 l, .int .i64 t, .int .i64 o, .int .i64 e, .int .i64 w_, .int .u32 v, .int .u32 d0, .int .u32 d1, .int .u32 d2, .int .u32 d3, .bool false] W → W.cell? ⟨w.heap.size, 0, none⟩ = some (.int .i64 13) ∧ W.cell? ⟨w.heap.size, 1, none⟩ = some (.int .i64 c) ∧ W.cell? ⟨w.heap.size, 2, none⟩ = some (.int .i64 l) ∧ W.cell? ⟨w.heap.size, 3, none⟩ = some (.int .i64 t) ∧ W.cell? ⟨w.heap.size, 4, none⟩ = some (.int .i64 o) ∧ W.cell? ⟨w.heap.size, 5, none⟩ = some (.int .i64 e) ∧ W.cell? ⟨w.heap.size, 6, none⟩ = some (.int .i64 w_) ∧ W.cell? ⟨w.heap.size, 7, none⟩ = some (.int .u32 v) ∧ W.cell? ⟨w.heap.size, 8, none⟩ = some (.int .u32 d0) ∧ W.cell? ⟨w.heap.size, 9, none⟩ = some (.int .u32 d1) ∧ W.cell? ⟨w.heap.size, 10, none⟩ = some (.int .u32 d2) ∧ W.cell? ⟨w.heap.size, 11, none⟩ = some (.int .u32 d3) ∧ W.cell? ⟨w.heap.size, 12, none⟩ = some (.bool false)) := Hid.in (fun W h => ⟨blk_cell h.bA rfl, blk_cell h.bA rfl, blk_cell h.bA rfl, blk_cell h.bA rfl, blk_cell h.bA rfl, blk_cell h.bA rfl, blk_cell h.bA rfl, blk_cell h.bA rfl, blk_cell h.bA rfl, blk_cell h.bA rfl, blk_cell h.bA rfl, blk_cell h.bA rfl, blk_cell h.bA rfl⟩)
  have HO : Hid (Lie w1 none 0 []) := Hid.in (Lie.nil _)
  have HM : Hid (0 = ([] : List Nat).length) := Hid.in rfl
  go_upto_region 3 with fail
  have HSd := Hid.in (HS.out.step (Below.refl _ _).drew)
  have HOd := Hid.in (HO.out.step (Below.refl _ _).drew)
  clear HS HO
  have HS := HSd
  have HO := HOd
  clear HSd HOd
  refine wp_region_but (SMA w #[.int .i64 13, .int .i64 c, .int .i64 l, .int .i64 t, .int .i64 o, .int .i64 e, .int .i64 w_, .int .u32 v, .int .u32 d0, .int .u32 d1, .int .u32 d2, .int .u32 d3, .bool false]) 9 (by kernel_rfl) ?_
  generalize hX : w1.drew = X3 at *
  clear hX
  have HW1 : True := trivial
  refine wpBut_take (i := 0) (v := ?_) rfl (by kernel_rfl) (by kernel_rfl) (by exact fun _ _ _ h => h) HS.out (Or.inl ⟨by rfl, ?_⟩) ?_
  case refine_2 => (intro W _; go_simp; try with_reducible rfl)
  simp only [Act.put, List.setIfInBounds_toArray, List.set_cons_zero, List.set_cons_succ]
  refine wpBut_take (i := 1) (v := ?_) rfl (by kernel_rfl) (by kernel_rfl) (by exact fun _ _ _ h => h) HS.out (Or.inl ⟨by rfl, ?_⟩) ?_
  case refine_2 => (intro W hSw; obtain ⟨s0, s1, s2, s3, s4, s5, s6, s7, s8, s9, s10, s11, s12⟩ := HFA.out W hSw; go_simp; try with_reducible rfl)
  simp only [Act.put, List.setIfInBounds_toArray, List.set_cons_zero, List.set_cons_succ]
  refine wpBut_take (i := 3) (v := ?_) rfl (by kernel_rfl) (by kernel_rfl) (by exact fun _ _ _ h => h) HS.out (Or.inl ⟨by rfl, ?_⟩) ?_
  case refine_2 => (intro W _; go_simp; try with_reducible rfl)
  simp only [Act.put, List.setIfInBounds_toArray, List.set_cons_zero, List.set_cons_succ]
  refine wpBut_take (i := 4) (v := ?_) rfl (by kernel_rfl) (by kernel_rfl) (by exact fun _ _ _ h => h) HS.out (Or.inl ⟨by rfl, ?_⟩) ?_
  case refine_2 => (intro W hSw; obtain ⟨s0, s1, s2, s3, s4, s5, s6, s7, s8, s9, s10, s11, s12⟩ := HFA.out W hSw; go_simp; try with_reducible rfl)
  simp only [Act.put, List.setIfInBounds_toArray, List.set_cons_zero, List.set_cons_succ]
  refine wpBut_take (i := 6) (v := ?_) rfl (by kernel_rfl) (by kernel_rfl) (by exact fun _ _ _ h => h) HS.out (Or.inl ⟨by rfl, ?_⟩) ?_
  case refine_2 => (intro W _; go_simp; try with_reducible rfl)
  simp only [Act.put, List.setIfInBounds_toArray, List.set_cons_zero, List.set_cons_succ]
  refine wpBut_take (i := 7) (v := ?_) rfl (by kernel_rfl) (by kernel_rfl) (by exact fun _ _ _ h => h) HS.out (Or.inl ⟨by rfl, ?_⟩) ?_
  case refine_2 => (intro W hSw; obtain ⟨s0, s1, s2, s3, s4, s5, s6, s7, s8, s9, s10, s11, s12⟩ := HFA.out W hSw; go_simp; try with_reducible rfl)
  simp only [Act.put, List.setIfInBounds_toArray, List.set_cons_zero, List.set_cons_succ]
  refine wpBut_one (i := 2) rfl (by kernel_rfl) (fun K HK => ?_)
  go_simp
  refine (qnum_o none 0 0 [] 13 _ HM.out HO.out (by first | exact Nat.zero_le _ | (simp only [List.length_append, List.length_nil]; omega)) (by omega) (by omega)).mono ?_
  rintro r v2 ⟨a2, M2, c2, rfl, hM, hO, hb⟩
  have HSn := Hid.in (HS.out.step hb)
  have HMn := Hid.in hM
  have HOn := Hid.in hO.lie
  have HW2 := Hid.in (hO.lower (B' := w.heap.size) (by have := HS.out.be.size; omega))
  clear hb hM hO HM HO
  clear HW1
  refine HK.out _ _ (fun _ => HSn.out) ?_
  clear HK K HS
  have HS := HSn
  have HM := HMn
  have HO := HOn
  clear HSn HMn HOn
  try simp only [Act.put, List.setIfInBounds_toArray, List.set_cons_zero, List.set_cons_succ]
  refine wpBut_one (i := 5) rfl (by kernel_rfl) (fun K HK => ?_)
  go_simp
  refine (qnum_o a2 M2 c2 ([] ++ enc (zz 13)) c _ HM.out HO.out (by first | exact Nat.zero_le _ | (simp only [List.length_append, List.length_nil]; omega)) (by omega) (by omega)).mono ?_
  rintro r v3 ⟨a3, M3, c3, rfl, hM, hO, hb⟩
  have HSn := Hid.in (HS.out.step hb)
  have HMn := Hid.in hM
  have HOn := Hid.in hO.lie
  have HW3 := Hid.in (hO.lower (B' := w.heap.size) (by have := HS.out.be.size; omega))
  clear hb hM hO HM HO
  clear HW2
  refine HK.out _ _ (fun _ => HSn.out) ?_
  clear HK K HS
  have HS := HSn
  have HM := HMn
  have HO := HOn
  clear HSn HMn HOn
  try simp only [Act.put, List.setIfInBounds_toArray, List.set_cons_zero, List.set_cons_succ]
  refine wpBut_one (i := 8) rfl (by kernel_rfl) (fun K HK => ?_)
  go_simp
  refine (qnum_o a3 M3 c3 (([] ++ enc (zz 13)) ++ enc (zz c)) l _ HM.out HO.out (by first | exact Nat.zero_le _ | (simp only [List.length_append, List.length_nil]; omega)) (by omega) (by omega)).mono ?_
  rintro r v4 ⟨a4, M4, c4, rfl, hM, hO, hb⟩
  have HSn := Hid.in (HS.out.step hb)
  have HMn := Hid.in hM
  have HOn := Hid.in hO.lie
  have HW4 := Hid.in (hO.lower (B' := w.heap.size) (by have := HS.out.be.size; omega))
  clear hb hM hO HM HO
  clear HW3
  refine HK.out _ _ (fun _ => HSn.out) ?_
  clear HK K HS
  have HS := HSn
  have HM := HMn
  have HO := HOn
  clear HSn HMn HOn
  try simp only [Act.put, List.setIfInBounds_toArray, List.set_cons_zero, List.set_cons_succ]
  refine wpBut_one (i := 9) rfl (by kernel_rfl) (fun K HK => ?_)
  go_simp
  refine HK.out _ _ (fun h => absurd rfl h) ?_
  clear HK K
  try simp only [Act.put, List.setIfInBounds_toArray, List.set_cons_zero, List.set_cons_succ]
  refine wpBut_done (by kernel_rfl) ?_ _
  have x0 : v4.cell? ⟨w.heap.size, 0, none⟩ = some (.int .i64 13) := blk_cell HS.out.bA rfl
  go_upto_region 12 with fail
  have HSd := Hid.in (HS.out.step (Below.refl _ _).drew)
  have HOd := Hid.in (HO.out.step (Below.refl _ _).drew)
  clear HS HO
  have HS := HSd
  have HO := HOd
  clear HSd HOd
  refine wp_region_but (SMA w #[.int .i64 13, .int .i64 c, .int .i64 l, .int .i64 t, .int .i64 o, .int .i64 e, .int .i64 w_, .int .u32 v, .int .u32 d0, .int .u32 d1, .int .u32 d2, .int .u32 d3, .bool false]) 7 (by kernel_rfl) ?_
  generalize hX : v4.drew = X12 at *
  clear hX
  clear HW4
  have HW5 : True := trivial
  clear x0
  refine wpBut_take (i := 0) (v := ?_) rfl (by kernel_rfl) (by kernel_rfl) (by exact fun _ _ _ h => h) HS.out (Or.inl ⟨by rfl, ?_⟩) ?_
  case refine_2 => (intro W _; go_simp; try with_reducible rfl)
  simp only [Act.put, List.setIfInBounds_toArray, List.set_cons_zero, List.set_cons_succ]
  refine wpBut_take (i := 1) (v := ?_) rfl (by kernel_rfl) (by kernel_rfl) (by exact fun _ _ _ h => h) HS.out (Or.inl ⟨by rfl, ?_⟩) ?_
  case refine_2 => (intro W hSw; obtain ⟨s0, s1, s2, s3, s4, s5, s6, s7, s8, s9, s10, s11, s12⟩ := HFA.out W hSw; go_simp; try with_reducible rfl)
  simp only [Act.put, List.setIfInBounds_toArray, List.set_cons_zero, List.set_cons_succ]
  refine wpBut_take (i := 2) (v := ?_) rfl (by kernel_rfl) (by kernel_rfl) (by exact fun _ _ _ h => h) HS.out (Or.inl ⟨by rfl, ?_⟩) ?_
  case refine_2 => (intro W hSw; obtain ⟨s0, s1, s2, s3, s4, s5, s6, s7, s8, s9, s10, s11, s12⟩ := HFA.out W hSw; go_simp; try with_reducible rfl)
  simp only [Act.put, List.setIfInBounds_toArray, List.set_cons_zero, List.set_cons_succ]
  refine wpBut_take (i := 4) (v := ?_) rfl (by kernel_rfl) (by kernel_rfl) (by exact fun _ _ _ h => h) HS.out (Or.inl ⟨by rfl, ?_⟩) ?_
  case refine_2 => (intro W _; go_simp; try with_reducible rfl)
  simp only [Act.put, List.setIfInBounds_toArray, List.set_cons_zero, List.set_cons_succ]
  refine wpBut_take (i := 5) (v := ?_) rfl (by kernel_rfl) (by kernel_rfl) (by exact fun _ _ _ h => h) HS.out (Or.inl ⟨by rfl, ?_⟩) ?_
  case refine_2 => (intro W hSw; obtain ⟨s0, s1, s2, s3, s4, s5, s6, s7, s8, s9, s10, s11, s12⟩ := HFA.out W hSw; go_simp; try with_reducible rfl)
  simp only [Act.put, List.setIfInBounds_toArray, List.set_cons_zero, List.set_cons_succ]
  refine wpBut_one (i := 3) rfl (by kernel_rfl) (fun K HK => ?_)
  go_simp
  refine (qnum_o a4 M4 c4 ((([] ++ enc (zz 13)) ++ enc (zz c)) ++ enc (zz l)) o _ HM.out HO.out (by first | exact Nat.zero_le _ | (simp only [List.length_append, List.length_nil]; omega)) (by omega) (by omega)).mono ?_
  rintro r v6 ⟨a6, M6, c6, rfl, hM, hO, hb⟩
  have HSn := Hid.in (HS.out.step hb)
  have HMn := Hid.in hM
  have HOn := Hid.in hO.lie
  have HW6 := Hid.in (hO.lower (B' := w.heap.size) (by have := HS.out.be.size; omega))
  clear hb hM hO HM HO
  clear HW5
  refine HK.out _ _ (fun _ => HSn.out) ?_
  clear HK K HS
  have HS := HSn
  have HM := HMn
  have HO := HOn
  clear HSn HMn HOn
  try simp only [Act.put, List.setIfInBounds_toArray, List.set_cons_zero, List.set_cons_succ]
  refine wpBut_one (i := 6) rfl (by kernel_rfl) (fun K HK => ?_)
  go_simp
  refine (qnum_o a6 M6 c6 (((([] ++ enc (zz 13)) ++ enc (zz c)) ++ enc (zz l)) ++ enc (zz o)) e _ HM.out HO.out (by first | exact Nat.zero_le _ | (simp only [List.length_append, List.length_nil]; omega)) (by omega) (by omega)).mono ?_
  rintro r v7 ⟨a7, M7, c7, rfl, hM, hO, hb⟩
  have HSn := Hid.in (HS.out.step hb)
  have HMn := Hid.in hM
  have HOn := Hid.in hO.lie
  have HW7 := Hid.in (hO.lower (B' := w.heap.size) (by have := HS.out.be.size; omega))
  clear hb hM hO HM HO
  clear HW6
  refine HK.out _ _ (fun _ => HSn.out) ?_
  clear HK K HS
  have HS := HSn
  have HM := HMn
  have HO := HOn
  clear HSn HMn HOn
  try simp only [Act.put, List.setIfInBounds_toArray, List.set_cons_zero, List.set_cons_succ]
  refine wpBut_one (i := 7) rfl (by kernel_rfl) (fun K HK => ?_)
  go_simp
  refine HK.out _ _ (fun h => absurd rfl h) ?_
  clear HK K
  try simp only [Act.put, List.setIfInBounds_toArray, List.set_cons_zero, List.set_cons_succ]
  refine wpBut_done (by kernel_rfl) ?_ _
  have x3 : v7.cell? ⟨w.heap.size, 3, none⟩ = some (.int .i64 t) := blk_cell HS.out.bA rfl
  go_wp2_with fail
  refine (qnum_o a7 M7 c7 ((((([] ++ enc (zz 13)) ++ enc (zz c)) ++ enc (zz l)) ++ enc (zz o)) ++ enc (zz e)) t _ HM.out HO.out (by first | exact Nat.zero_le _ | (simp only [List.length_append, List.length_nil]; omega)) (by omega) (by omega)).mono ?_
  rintro r v8 ⟨a8, M8, c8, rfl, hM, hO, hb⟩
  have HSn := Hid.in (HS.out.step hb)
  have HMn := Hid.in hM
  have HOn := Hid.in hO.lie
  have HW8 := Hid.in (hO.lower (B' := w.heap.size) (by have := HS.out.be.size; omega))
  clear hb hM hO HM HO
  clear HW7
  clear HS
  have HS := HSn
  have HM := HMn
  have HO := HOn
  clear HSn HMn HOn
  have x12 : v8.cell? ⟨w.heap.size, 12, none⟩ = some (.bool false) := blk_cell HS.out.bA rfl
  go_wp2_with fail
  refine (qnum_o a8 M8 c8 (((((([] ++ enc (zz 13)) ++ enc (zz c)) ++ enc (zz l)) ++ enc (zz o)) ++ enc (zz e)) ++ enc (zz t)) 0 _ HM.out HO.out (by first | exact Nat.zero_le _ | (simp only [List.length_append, List.length_nil]; omega)) (by omega) (by omega)).mono ?_
  rintro r v9 ⟨a9, M9, c9, rfl, hM, hO, hb⟩
  have HSn := Hid.in (HS.out.step hb)
  have HMn := Hid.in hM
  have HOn := Hid.in hO.lie
  have HW9 := Hid.in (hO.lower (B' := w.heap.size) (by have := HS.out.be.size; omega))
  clear hb hM hO HM HO
  clear HW8
  clear HS
  have HS := HSn
  have HM := HMn
  have HO := HOn
  clear HSn HMn HOn
  go_wp2
  go_ret
  exact ⟨_, _, _, rfl, HM.out, HW9.out, HS.out.be⟩

set_option maxHeartbeats 6400000 in
set_option maxRecDepth 20000 in
theorem qsPut_D1 (w : World) (c l t o e w_ v d0 d1 d2 d3 : Int) (h32 : M32 (13, c, l, t, o, e, w_, v, d0, d1, d2, d3, true)) (h64 : M64 (13, c, l, t, o, e, w_, v, d0, d1, d2, d3, true)) (hr : rtP (13, c, l, t, o, e, w_, v, d0, d1, d2, d3, true)) :
    Calls Tryd.prog 14 #[.agg #[.int .i64 13, .int .i64 c, .int .i64 l, .int .i64 t, .int .i64 o, .int .i64 e, .int .i64 w_, .int .u32 v, .int .u32 d0, .int .u32 d1, .int .u32 d2, .int .u32 d3, .bool true]] w fun r w' => ∃ ao N cap, r = .returned (.slice ao N cap) ∧ N = (encM (13, c, l, t, o, e, w_, v, d0, d1, d2, d3, true)).length ∧ Own w' w.heap.size ao N cap (encM (13, c, l, t, o, e, w_, v, d0, d1, d2, d3, true)) ∧ Below w.heap.size w w' := by
  have HEN : Hid (encM (13, c, l, t, o, e, w_, v, d0, d1, d2, d3, true) = ((((((((((([] ++ enc (zz 13)) ++ enc (zz c)) ++ enc (zz l)) ++ enc (zz o)) ++ enc (zz e)) ++ enc (zz t)) ++ enc (zz 1)) ++ enc (zz d0)) ++ enc (zz d1)) ++ enc (zz d2)) ++ enc (zz d3))) := Hid.in (by
    have h1 := mask_eq _ hr
    rw [← h1]
    rw [show maskM (13, c, l, t, o, e, w_, v, d0, d1, d2, d3, true) = (13, c, l, t, o, e, 0, 0, d0, d1, d2, d3, true) from rfl]
    exact encM_D1 rfl)
  rw [HEN.out]
  have b64 := h64
  have b32 := h32
  simp only [M64] at b64
  simp only [M32] at b32
  obtain ⟨bk, bc, bl, bt, bo, be, bw⟩ := b64
  obtain ⟨⟨bv0, bv1⟩, ⟨bd00, bd01⟩, ⟨bd10, bd11⟩, ⟨bd20, bd21⟩, bd30, bd31⟩ := b32
  have wrd0 : IntKind.i64.wrap d0 = d0 := by rw [IntKind.wrap_i64]; omega
  have wrd1 : IntKind.i64.wrap d1 = d1 := by rw [IntKind.wrap_i64]; omega
  have wrd2 : IntKind.i64.wrap d2 = d2 := by rw [IntKind.wrap_i64]; omega
  have wrd3 : IntKind.i64.wrap d3 = d3 := by rw [IntKind.wrap_i64]; omega
  have n0 := num_len (13 : Int) (by omega) (by omega)
  have n1 := num_len c (by omega) (by omega)
  have n2 := num_len l (by omega) (by omega)
  have n3 := num_len o (by omega) (by omega)
  have n4 := num_len e (by omega) (by omega)
  have n5 := num_len t (by omega) (by omega)
  have n6 := num_len (1 : Int) (by omega) (by omega)
  have n7 := num_len d0 (by omega) (by omega)
  have n8 := num_len d1 (by omega) (by omega)
  have n9 := num_len d2 (by omega) (by omega)
  have n10 := num_len d3 (by omega) (by omega)
  have hrr := fun W => qsRight_any (13, c, l, t, o, e, w_, v, d0, d1, d2, d3, true) W h64
  rw [(rtB_iff _).2 hr] at hrr
  simp only [mv] at hrr
  have HRR := Hid.in hrr
  clear hrr hr
  have HS0 : Hid (SMA w #[.int .i64 13, .int .i64 c, .int .i64 l, .int .i64 t, .int .i64 o, .int .i64 e, .int .i64 w_, .int .u32 v, .int .u32 d0, .int .u32 d1, .int .u32 d2, .int .u32 d3, .bool true] (w.alloc (.cells #[.int .i64 13, .int .i64 c, .int .i64 l, .int .i64 t, .int .i64 o, .int .i64 e, .int .i64 w_, .int .u32 v, .int .u32 d0, .int .u32 d1, .int .u32 d2, .int .u32 d3, .bool true] 28))) := Hid.in ⟨heap_alloc_new _ _, below_alloc _ _⟩
  have x0 : (w.alloc (.cells #[.int .i64 13, .int .i64 c, .int .i64 l, .int .i64 t, .int .i64 o, .int .i64 e, .int .i64 w_, .int .u32 v, .int .u32 d0, .int .u32 d1, .int .u32 d2, .int .u32 d3, .bool true] 28)).cell? ⟨w.heap.size, 0, none⟩ = some (.int .i64 13) := blk_cell HS0.out.bA rfl
  have x1 : (w.alloc (.cells #[.int .i64 13, .int .i64 c, .int .i64 l, .int .i64 t, .int .i64 o, .int .i64 e, .int .i64 w_, .int .u32 v, .int .u32 d0, .int .u32 d1, .int .u32 d2, .int .u32 d3, .bool true] 28)).cell? ⟨w.heap.size, 1, none⟩ = some (.int .i64 c) := blk_cell HS0.out.bA rfl
  have x2 : (w.alloc (.cells #[.int .i64 13, .int .i64 c, .int .i64 l, .int .i64 t, .int .i64 o, .int .i64 e, .int .i64 w_, .int .u32 v, .int .u32 d0, .int .u32 d1, .int .u32 d2, .int .u32 d3, .bool true] 28)).cell? ⟨w.heap.size, 2, none⟩ = some (.int .i64 l) := blk_cell HS0.out.bA rfl
  have x3 : (w.alloc (.cells #[.int .i64 13, .int .i64 c, .int .i64 l, .int .i64 t, .int .i64 o, .int .i64 e, .int .i64 w_, .int .u32 v, .int .u32 d0, .int .u32 d1, .int .u32 d2, .int .u32 d3, .bool true] 28)).cell? ⟨w.heap.size, 3, none⟩ = some (.int .i64 t) := blk_cell HS0.out.bA rfl
  have x4 : (w.alloc (.cells #[.int .i64 13, .int .i64 c, .int .i64 l, .int .i64 t, .int .i64 o, .int .i64 e, .int .i64 w_, .int .u32 v, .int .u32 d0, .int .u32 d1, .int .u32 d2, .int .u32 d3, .bool true] 28)).cell? ⟨w.heap.size, 4, none⟩ = some (.int .i64 o) := blk_cell HS0.out.bA rfl
  have x5 : (w.alloc (.cells #[.int .i64 13, .int .i64 c, .int .i64 l, .int .i64 t, .int .i64 o, .int .i64 e, .int .i64 w_, .int .u32 v, .int .u32 d0, .int .u32 d1, .int .u32 d2, .int .u32 d3, .bool true] 28)).cell? ⟨w.heap.size, 5, none⟩ = some (.int .i64 e) := blk_cell HS0.out.bA rfl
  have x6 : (w.alloc (.cells #[.int .i64 13, .int .i64 c, .int .i64 l, .int .i64 t, .int .i64 o, .int .i64 e, .int .i64 w_, .int .u32 v, .int .u32 d0, .int .u32 d1, .int .u32 d2, .int .u32 d3, .bool true] 28)).cell? ⟨w.heap.size, 6, none⟩ = some (.int .i64 w_) := blk_cell HS0.out.bA rfl
  have x7 : (w.alloc (.cells #[.int .i64 13, .int .i64 c, .int .i64 l, .int .i64 t, .int .i64 o, .int .i64 e, .int .i64 w_, .int .u32 v, .int .u32 d0, .int .u32 d1, .int .u32 d2, .int .u32 d3, .bool true] 28)).cell? ⟨w.heap.size, 7, none⟩ = some (.int .u32 v) := blk_cell HS0.out.bA rfl
  have x8 : (w.alloc (.cells #[.int .i64 13, .int .i64 c, .int .i64 l, .int .i64 t, .int .i64 o, .int .i64 e, .int .i64 w_, .int .u32 v, .int .u32 d0, .int .u32 d1, .int .u32 d2, .int .u32 d3, .bool true] 28)).cell? ⟨w.heap.size, 8, none⟩ = some (.int .u32 d0) := blk_cell HS0.out.bA rfl
  have x9 : (w.alloc (.cells #[.int .i64 13, .int .i64 c, .int .i64 l, .int .i64 t, .int .i64 o, .int .i64 e, .int .i64 w_, .int .u32 v, .int .u32 d0, .int .u32 d1, .int .u32 d2, .int .u32 d3, .bool true] 28)).cell? ⟨w.heap.size, 9, none⟩ = some (.int .u32 d1) := blk_cell HS0.out.bA rfl
  have x10 : (w.alloc (.cells #[.int .i64 13, .int .i64 c, .int .i64 l, .int .i64 t, .int .i64 o, .int .i64 e, .int .i64 w_, .int .u32 v, .int .u32 d0, .int .u32 d1, .int .u32 d2, .int .u32 d3, .bool true] 28)).cell? ⟨w.heap.size, 10, none⟩ = some (.int .u32 d2) := blk_cell HS0.out.bA rfl
  have x11 : (w.alloc (.cells #[.int .i64 13, .int .i64 c, .int .i64 l, .int .i64 t, .int .i64 o, .int .i64 e, .int .i64 w_, .int .u32 v, .int .u32 d0, .int .u32 d1, .int .u32 d2, .int .u32 d3, .bool true] 28)).cell? ⟨w.heap.size, 11, none⟩ = some (.int .u32 d3) := blk_cell HS0.out.bA rfl
  have x12 : (w.alloc (.cells #[.int .i64 13, .int .i64 c, .int .i64 l, .int .i64 t, .int .i64 o, .int .i64 e, .int .i64 w_, .int .u32 v, .int .u32 d0, .int .u32 d1, .int .u32 d2, .int .u32 d3, .bool true] 28)).cell? ⟨w.heap.size, 12, none⟩ = some (.bool true) := blk_cell HS0.out.bA rfl
  go_enter Tryd.func14, Tryd.ntmps14
  go_wp2_with fail
  refine (HRR.out _).mono ?_
  rintro r w1 ⟨rfl, hb⟩
  have HS := Hid.in (HS0.out.step hb)
  clear hb HS0 HRR
  clear x0 x1 x2 x3 x4 x5 x6 x7 x8 x9 x10 x11 x12
  have HFA : Hid (∀ W, SMA w #[.int .i64 13, .int .i64 c, .int .i64 l, .int .i64 t, .int .i64 o, .int .i64 e, .int .i64 w_, .int .u32 v, .int .u32 d0, .int .u32 d1, .int .u32 d2, .int .u32 d3, .bool true] W → W.cell? ⟨w.heap.size, 0, none⟩ = some (.int .i64 13) ∧ W.cell? ⟨w.heap.size, 1, none⟩ = some (.int .i64 c) ∧ W.cell? ⟨w.heap.size, 2, none⟩ = some (.int .i64 l) ∧ W.cell? ⟨w.heap.size, 3, none⟩ = some (.int .i64 t) ∧ W.cell? ⟨w.heap.size, 4, none⟩ = some (.int .i64 o) ∧ W.cell? ⟨w.heap.size, 5, none⟩ = some (.int .i64 e) ∧ W.cell? ⟨w.heap.size, 6, none⟩ = some (.int .i64 w_) ∧ W.cell? ⟨w.heap.size, 7, none⟩ = some (.int .u32 v) ∧ W.cell? ⟨w.heap.size, 8, none⟩ = some (.int .u32 d0) ∧ W.cell? ⟨w.heap.size, 9, none⟩ = some (.int .u32 d1) ∧ W.cell? ⟨w.heap.size, 10, none⟩ = some (.int .u32 d2) ∧ W.cell? ⟨w.heap.size, 11, none⟩ = some (.int .u32 d3) ∧ W.cell? ⟨w.heap.size, 12, none⟩ = some (.bool true)) := Hid.in (fun W h => ⟨blk_cell h.bA rfl, blk_cell h.bA rfl, blk_cell h.bA rfl, blk_cell h.bA rfl, blk_cell h.bA rfl, blk_cell h.bA rfl, blk_cell h.bA rfl, blk_cell h.bA rfl, blk_cell h.bA rfl, blk_cell h.bA rfl, blk_cell h.bA rfl, blk_cell h.bA rfl, blk_cell h.bA rfl⟩)
  have HO : Hid (Lie w1 none 0 []) := Hid.in (Lie.nil _)
  have HM : Hid (0 = ([] : List Nat).length) := Hid.in rfl
  go_upto_region 3 with fail
  have HSd := Hid.in (HS.out.step (Below.refl _ _).drew)
  have HOd := Hid.in (HO.out.step (Below.refl _ _).drew)
  clear HS HO
  have HS := HSd
  have HO := HOd
  clear HSd HOd
  refine wp_region_but (SMA w #[.int .i64 13, .int .i64 c, .int .i64 l, .int .i64 t, .int .i64 o, .int .i64 e, .int .i64 w_, .int .u32 v, .int .u32 d0, .int .u32 d1, .int .u32 d2, .int .u32 d3, .bool true]) 9 (by kernel_rfl) ?_
  generalize hX : w1.drew = X3 at *
  clear hX
  have HW1 : True := trivial
  refine wpBut_take (i := 0) (v := ?_) rfl (by kernel_rfl) (by kernel_rfl) (by exact fun _ _ _ h => h) HS.out (Or.inl ⟨by rfl, ?_⟩) ?_
  case refine_2 => (intro W _; go_simp; try with_reducible rfl)
  simp only [Act.put, List.setIfInBounds_toArray, List.set_cons_zero, List.set_cons_succ]
  refine wpBut_take (i := 1) (v := ?_) rfl (by kernel_rfl) (by kernel_rfl) (by exact fun _ _ _ h => h) HS.out (Or.inl ⟨by rfl, ?_⟩) ?_
  case refine_2 => (intro W hSw; obtain ⟨s0, s1, s2, s3, s4, s5, s6, s7, s8, s9, s10, s11, s12⟩ := HFA.out W hSw; go_simp; try with_reducible rfl)
  simp only [Act.put, List.setIfInBounds_toArray, List.set_cons_zero, List.set_cons_succ]
  refine wpBut_take (i := 3) (v := ?_) rfl (by kernel_rfl) (by kernel_rfl) (by exact fun _ _ _ h => h) HS.out (Or.inl ⟨by rfl, ?_⟩) ?_
  case refine_2 => (intro W _; go_simp; try with_reducible rfl)
  simp only [Act.put, List.setIfInBounds_toArray, List.set_cons_zero, List.set_cons_succ]
  refine wpBut_take (i := 4) (v := ?_) rfl (by kernel_rfl) (by kernel_rfl) (by exact fun _ _ _ h => h) HS.out (Or.inl ⟨by rfl, ?_⟩) ?_
  case refine_2 => (intro W hSw; obtain ⟨s0, s1, s2, s3, s4, s5, s6, s7, s8, s9, s10, s11, s12⟩ := HFA.out W hSw; go_simp; try with_reducible rfl)
  simp only [Act.put, List.setIfInBounds_toArray, List.set_cons_zero, List.set_cons_succ]
  refine wpBut_take (i := 6) (v := ?_) rfl (by kernel_rfl) (by kernel_rfl) (by exact fun _ _ _ h => h) HS.out (Or.inl ⟨by rfl, ?_⟩) ?_
  case refine_2 => (intro W _; go_simp; try with_reducible rfl)
  simp only [Act.put, List.setIfInBounds_toArray, List.set_cons_zero, List.set_cons_succ]
  refine wpBut_take (i := 7) (v := ?_) rfl (by kernel_rfl) (by kernel_rfl) (by exact fun _ _ _ h => h) HS.out (Or.inl ⟨by rfl, ?_⟩) ?_
  case refine_2 => (intro W hSw; obtain ⟨s0, s1, s2, s3, s4, s5, s6, s7, s8, s9, s10, s11, s12⟩ := HFA.out W hSw; go_simp; try with_reducible rfl)
  simp only [Act.put, List.setIfInBounds_toArray, List.set_cons_zero, List.set_cons_succ]
  refine wpBut_one (i := 2) rfl (by kernel_rfl) (fun K HK => ?_)
  go_simp
  refine (qnum_o none 0 0 [] 13 _ HM.out HO.out (by first | exact Nat.zero_le _ | (simp only [List.length_append, List.length_nil]; omega)) (by omega) (by omega)).mono ?_
  rintro r v2 ⟨a2, M2, c2, rfl, hM, hO, hb⟩
  have HSn := Hid.in (HS.out.step hb)
  have HMn := Hid.in hM
  have HOn := Hid.in hO.lie
  have HW2 := Hid.in (hO.lower (B' := w.heap.size) (by have := HS.out.be.size; omega))
  clear hb hM hO HM HO
  clear HW1
  refine HK.out _ _ (fun _ => HSn.out) ?_
  clear HK K HS
  have HS := HSn
  have HM := HMn
  have HO := HOn
  clear HSn HMn HOn
  try simp only [Act.put, List.setIfInBounds_toArray, List.set_cons_zero, List.set_cons_succ]
  refine wpBut_one (i := 5) rfl (by kernel_rfl) (fun K HK => ?_)
  go_simp
  refine (qnum_o a2 M2 c2 ([] ++ enc (zz 13)) c _ HM.out HO.out (by first | exact Nat.zero_le _ | (simp only [List.length_append, List.length_nil]; omega)) (by omega) (by omega)).mono ?_
  rintro r v3 ⟨a3, M3, c3, rfl, hM, hO, hb⟩
  have HSn := Hid.in (HS.out.step hb)
  have HMn := Hid.in hM
  have HOn := Hid.in hO.lie
  have HW3 := Hid.in (hO.lower (B' := w.heap.size) (by have := HS.out.be.size; omega))
  clear hb hM hO HM HO
  clear HW2
  refine HK.out _ _ (fun _ => HSn.out) ?_
  clear HK K HS
  have HS := HSn
  have HM := HMn
  have HO := HOn
  clear HSn HMn HOn
  try simp only [Act.put, List.setIfInBounds_toArray, List.set_cons_zero, List.set_cons_succ]
  refine wpBut_one (i := 8) rfl (by kernel_rfl) (fun K HK => ?_)
  go_simp
  refine (qnum_o a3 M3 c3 (([] ++ enc (zz 13)) ++ enc (zz c)) l _ HM.out HO.out (by first | exact Nat.zero_le _ | (simp only [List.length_append, List.length_nil]; omega)) (by omega) (by omega)).mono ?_
  rintro r v4 ⟨a4, M4, c4, rfl, hM, hO, hb⟩
  have HSn := Hid.in (HS.out.step hb)
  have HMn := Hid.in hM
  have HOn := Hid.in hO.lie
  have HW4 := Hid.in (hO.lower (B' := w.heap.size) (by have := HS.out.be.size; omega))
  clear hb hM hO HM HO
  clear HW3
  refine HK.out _ _ (fun _ => HSn.out) ?_
  clear HK K HS
  have HS := HSn
  have HM := HMn
  have HO := HOn
  clear HSn HMn HOn
  try simp only [Act.put, List.setIfInBounds_toArray, List.set_cons_zero, List.set_cons_succ]
  refine wpBut_one (i := 9) rfl (by kernel_rfl) (fun K HK => ?_)
  go_simp
  refine HK.out _ _ (fun h => absurd rfl h) ?_
  clear HK K
  try simp only [Act.put, List.setIfInBounds_toArray, List.set_cons_zero, List.set_cons_succ]
  refine wpBut_done (by kernel_rfl) ?_ _
  have x0 : v4.cell? ⟨w.heap.size, 0, none⟩ = some (.int .i64 13) := blk_cell HS.out.bA rfl
  go_upto_region 12 with fail
  have HSd := Hid.in (HS.out.step (Below.refl _ _).drew)
  have HOd := Hid.in (HO.out.step (Below.refl _ _).drew)
  clear HS HO
  have HS := HSd
  have HO := HOd
  clear HSd HOd
  refine wp_region_but (SMA w #[.int .i64 13, .int .i64 c, .int .i64 l, .int .i64 t, .int .i64 o, .int .i64 e, .int .i64 w_, .int .u32 v, .int .u32 d0, .int .u32 d1, .int .u32 d2, .int .u32 d3, .bool true]) 7 (by kernel_rfl) ?_
  generalize hX : v4.drew = X12 at *
  clear hX
  clear HW4
  have HW5 : True := trivial
  clear x0
  refine wpBut_take (i := 0) (v := ?_) rfl (by kernel_rfl) (by kernel_rfl) (by exact fun _ _ _ h => h) HS.out (Or.inl ⟨by rfl, ?_⟩) ?_
  case refine_2 => (intro W _; go_simp; try with_reducible rfl)
  simp only [Act.put, List.setIfInBounds_toArray, List.set_cons_zero, List.set_cons_succ]
  refine wpBut_take (i := 1) (v := ?_) rfl (by kernel_rfl) (by kernel_rfl) (by exact fun _ _ _ h => h) HS.out (Or.inl ⟨by rfl, ?_⟩) ?_
  case refine_2 => (intro W hSw; obtain ⟨s0, s1, s2, s3, s4, s5, s6, s7, s8, s9, s10, s11, s12⟩ := HFA.out W hSw; go_simp; try with_reducible rfl)
  simp only [Act.put, List.setIfInBounds_toArray, List.set_cons_zero, List.set_cons_succ]
  refine wpBut_take (i := 2) (v := ?_) rfl (by kernel_rfl) (by kernel_rfl) (by exact fun _ _ _ h => h) HS.out (Or.inl ⟨by rfl, ?_⟩) ?_
  case refine_2 => (intro W hSw; obtain ⟨s0, s1, s2, s3, s4, s5, s6, s7, s8, s9, s10, s11, s12⟩ := HFA.out W hSw; go_simp; try with_reducible rfl)
  simp only [Act.put, List.setIfInBounds_toArray, List.set_cons_zero, List.set_cons_succ]
  refine wpBut_take (i := 4) (v := ?_) rfl (by kernel_rfl) (by kernel_rfl) (by exact fun _ _ _ h => h) HS.out (Or.inl ⟨by rfl, ?_⟩) ?_
  case refine_2 => (intro W _; go_simp; try with_reducible rfl)
  simp only [Act.put, List.setIfInBounds_toArray, List.set_cons_zero, List.set_cons_succ]
  refine wpBut_take (i := 5) (v := ?_) rfl (by kernel_rfl) (by kernel_rfl) (by exact fun _ _ _ h => h) HS.out (Or.inl ⟨by rfl, ?_⟩) ?_
  case refine_2 => (intro W hSw; obtain ⟨s0, s1, s2, s3, s4, s5, s6, s7, s8, s9, s10, s11, s12⟩ := HFA.out W hSw; go_simp; try with_reducible rfl)
  simp only [Act.put, List.setIfInBounds_toArray, List.set_cons_zero, List.set_cons_succ]
  refine wpBut_one (i := 3) rfl (by kernel_rfl) (fun K HK => ?_)
  go_simp
  refine (qnum_o a4 M4 c4 ((([] ++ enc (zz 13)) ++ enc (zz c)) ++ enc (zz l)) o _ HM.out HO.out (by first | exact Nat.zero_le _ | (simp only [List.length_append, List.length_nil]; omega)) (by omega) (by omega)).mono ?_
  rintro r v6 ⟨a6, M6, c6, rfl, hM, hO, hb⟩
  have HSn := Hid.in (HS.out.step hb)
  have HMn := Hid.in hM
  have HOn := Hid.in hO.lie
  have HW6 := Hid.in (hO.lower (B' := w.heap.size) (by have := HS.out.be.size; omega))
  clear hb hM hO HM HO
  clear HW5
  refine HK.out _ _ (fun _ => HSn.out) ?_
  clear HK K HS
  have HS := HSn
  have HM := HMn
  have HO := HOn
  clear HSn HMn HOn
  try simp only [Act.put, List.setIfInBounds_toArray, List.set_cons_zero, List.set_cons_succ]
  refine wpBut_one (i := 6) rfl (by kernel_rfl) (fun K HK => ?_)
  go_simp
  refine (qnum_o a6 M6 c6 (((([] ++ enc (zz 13)) ++ enc (zz c)) ++ enc (zz l)) ++ enc (zz o)) e _ HM.out HO.out (by first | exact Nat.zero_le _ | (simp only [List.length_append, List.length_nil]; omega)) (by omega) (by omega)).mono ?_
  rintro r v7 ⟨a7, M7, c7, rfl, hM, hO, hb⟩
  have HSn := Hid.in (HS.out.step hb)
  have HMn := Hid.in hM
  have HOn := Hid.in hO.lie
  have HW7 := Hid.in (hO.lower (B' := w.heap.size) (by have := HS.out.be.size; omega))
  clear hb hM hO HM HO
  clear HW6
  refine HK.out _ _ (fun _ => HSn.out) ?_
  clear HK K HS
  have HS := HSn
  have HM := HMn
  have HO := HOn
  clear HSn HMn HOn
  try simp only [Act.put, List.setIfInBounds_toArray, List.set_cons_zero, List.set_cons_succ]
  refine wpBut_one (i := 7) rfl (by kernel_rfl) (fun K HK => ?_)
  go_simp
  refine HK.out _ _ (fun h => absurd rfl h) ?_
  clear HK K
  try simp only [Act.put, List.setIfInBounds_toArray, List.set_cons_zero, List.set_cons_succ]
  refine wpBut_done (by kernel_rfl) ?_ _
  have x3 : v7.cell? ⟨w.heap.size, 3, none⟩ = some (.int .i64 t) := blk_cell HS.out.bA rfl
  go_wp2_with fail
  refine (qnum_o a7 M7 c7 ((((([] ++ enc (zz 13)) ++ enc (zz c)) ++ enc (zz l)) ++ enc (zz o)) ++ enc (zz e)) t _ HM.out HO.out (by first | exact Nat.zero_le _ | (simp only [List.length_append, List.length_nil]; omega)) (by omega) (by omega)).mono ?_
  rintro r v8 ⟨a8, M8, c8, rfl, hM, hO, hb⟩
  have HSn := Hid.in (HS.out.step hb)
  have HMn := Hid.in hM
  have HOn := Hid.in hO.lie
  have HW8 := Hid.in (hO.lower (B' := w.heap.size) (by have := HS.out.be.size; omega))
  clear hb hM hO HM HO
  clear HW7
  clear HS
  have HS := HSn
  have HM := HMn
  have HO := HOn
  clear HSn HMn HOn
  have x12 : v8.cell? ⟨w.heap.size, 12, none⟩ = some (.bool true) := blk_cell HS.out.bA rfl
  go_wp2_with fail
  refine (qnum_o a8 M8 c8 (((((([] ++ enc (zz 13)) ++ enc (zz c)) ++ enc (zz l)) ++ enc (zz o)) ++ enc (zz e)) ++ enc (zz t)) 1 _ HM.out HO.out (by first | exact Nat.zero_le _ | (simp only [List.length_append, List.length_nil]; omega)) (by omega) (by omega)).mono ?_
  rintro r v9 ⟨a9, M9, c9, rfl, hM, hO, hb⟩
  have HSn := Hid.in (HS.out.step hb)
  have HMn := Hid.in hM
  have HOn := Hid.in hO.lie
  have HW9 := Hid.in (hO.lower (B' := w.heap.size) (by have := HS.out.be.size; omega))
  clear hb hM hO HM HO
  clear HW8
  clear HS
  have HS := HSn
  have HM := HMn
  have HO := HOn
  clear HSn HMn HOn
  go_wp2_with fail
  refine wp_loop_rounds 5 ?_
  rw [rounds_succ]
  have x8 : v9.cell? ⟨w.heap.size, 8, none⟩ = some (.int .u32 d0) := blk_cell HS.out.bA rfl
  go_wp2_with fail
  refine (qnum_o a9 M9 c9 ((((((([] ++ enc (zz 13)) ++ enc (zz c)) ++ enc (zz l)) ++ enc (zz o)) ++ enc (zz e)) ++ enc (zz t)) ++ enc (zz 1)) d0 _ HM.out HO.out (by first | exact Nat.zero_le _ | (simp only [List.length_append, List.length_nil]; omega)) (by omega) (by omega)).mono ?_
  rintro r v10 ⟨a10, M10, c10, rfl, hM, hO, hb⟩
  have HSn := Hid.in (HS.out.step hb)
  have HMn := Hid.in hM
  have HOn := Hid.in hO.lie
  have HW10 := Hid.in (hO.lower (B' := w.heap.size) (by have := HS.out.be.size; omega))
  clear hb hM hO HM HO
  clear HW9
  clear HS
  have HS := HSn
  have HM := HMn
  have HO := HOn
  clear HSn HMn HOn
  go_wp2_with fail
  rw [rounds_succ]
  have x9 : v10.cell? ⟨w.heap.size, 9, none⟩ = some (.int .u32 d1) := blk_cell HS.out.bA rfl
  go_wp2_with fail
  refine (qnum_o a10 M10 c10 (((((((([] ++ enc (zz 13)) ++ enc (zz c)) ++ enc (zz l)) ++ enc (zz o)) ++ enc (zz e)) ++ enc (zz t)) ++ enc (zz 1)) ++ enc (zz d0)) d1 _ HM.out HO.out (by first | exact Nat.zero_le _ | (simp only [List.length_append, List.length_nil]; omega)) (by omega) (by omega)).mono ?_
  rintro r v11 ⟨a11, M11, c11, rfl, hM, hO, hb⟩
  have HSn := Hid.in (HS.out.step hb)
  have HMn := Hid.in hM
  have HOn := Hid.in hO.lie
  have HW11 := Hid.in (hO.lower (B' := w.heap.size) (by have := HS.out.be.size; omega))
  clear hb hM hO HM HO
  clear HW10
  clear HS
  have HS := HSn
  have HM := HMn
  have HO := HOn
  clear HSn HMn HOn
  go_wp2_with fail
  rw [rounds_succ]
  have x10 : v11.cell? ⟨w.heap.size, 10, none⟩ = some (.int .u32 d2) := blk_cell HS.out.bA rfl
  go_wp2_with fail
  refine (qnum_o a11 M11 c11 ((((((((([] ++ enc (zz 13)) ++ enc (zz c)) ++ enc (zz l)) ++ enc (zz o)) ++ enc (zz e)) ++ enc (zz t)) ++ enc (zz 1)) ++ enc (zz d0)) ++ enc (zz d1)) d2 _ HM.out HO.out (by first | exact Nat.zero_le _ | (simp only [List.length_append, List.length_nil]; omega)) (by omega) (by omega)).mono ?_
  rintro r v12 ⟨a12, M12, c12, rfl, hM, hO, hb⟩
  have HSn := Hid.in (HS.out.step hb)
  have HMn := Hid.in hM
  have HOn := Hid.in hO.lie
  have HW12 := Hid.in (hO.lower (B' := w.heap.size) (by have := HS.out.be.size; omega))
  clear hb hM hO HM HO
  clear HW11
  clear HS
  have HS := HSn
  have HM := HMn
  have HO := HOn
  clear HSn HMn HOn
  go_wp2_with fail
  rw [rounds_succ]
  have x11 : v12.cell? ⟨w.heap.size, 11, none⟩ = some (.int .u32 d3) := blk_cell HS.out.bA rfl
  go_wp2_with fail
  refine (qnum_o a12 M12 c12 (((((((((([] ++ enc (zz 13)) ++ enc (zz c)) ++ enc (zz l)) ++ enc (zz o)) ++ enc (zz e)) ++ enc (zz t)) ++ enc (zz 1)) ++ enc (zz d0)) ++ enc (zz d1)) ++ enc (zz d2)) d3 _ HM.out HO.out (by first | exact Nat.zero_le _ | (simp only [List.length_append, List.length_nil]; omega)) (by omega) (by omega)).mono ?_
  rintro r v13 ⟨a13, M13, c13, rfl, hM, hO, hb⟩
  have HSn := Hid.in (HS.out.step hb)
  have HMn := Hid.in hM
  have HOn := Hid.in hO.lie
  have HW13 := Hid.in (hO.lower (B' := w.heap.size) (by have := HS.out.be.size; omega))
  clear hb hM hO HM HO
  clear HW12
  clear HS
  have HS := HSn
  have HM := HMn
  have HO := HOn
  clear HSn HMn HOn
  go_wp2_with fail
  rw [rounds_succ]
  go_wp2
  go_ret
  exact ⟨_, _, _, rfl, HM.out, HW13.out, HS.out.be⟩

set_option maxHeartbeats 6400000 in
set_option maxRecDepth 20000 in
theorem qsPut_A0 (w : World) (c l t o e w_ v d0 d1 d2 d3 : Int) (h32 : M32 (11, c, l, t, o, e, w_, v, d0, d1, d2, d3, false)) (h64 : M64 (11, c, l, t, o, e, w_, v, d0, d1, d2, d3, false)) (hr : rtP (11, c, l, t, o, e, w_, v, d0, d1, d2, d3, false)) :
    Calls Tryd.prog 14 #[.agg #[.int .i64 11, .int .i64 c, .int .i64 l, .int .i64 t, .int .i64 o, .int .i64 e, .int .i64 w_, .int .u32 v, .int .u32 d0, .int .u32 d1, .int .u32 d2, .int .u32 d3, .bool false]] w fun r w' => ∃ ao N cap, r = .returned (.slice ao N cap) ∧ N = (encM (11, c, l, t, o, e, w_, v, d0, d1, d2, d3, false)).length ∧ Own w' w.heap.size ao N cap (encM (11, c, l, t, o, e, w_, v, d0, d1, d2, d3, false)) ∧ Below w.heap.size w w' := by
  have HEN : Hid (encM (11, c, l, t, o, e, w_, v, d0, d1, d2, d3, false) = ((((([] ++ enc (zz 11)) ++ enc (zz c)) ++ enc (zz l)) ++ enc (zz t)) ++ enc (zz 0))) := Hid.in (by
    have h1 := mask_eq _ hr
    have h2 : d0 = 0 ∧ d1 = 0 ∧ d2 = 0 ∧ d3 = 0 := by simp [rtP] at hr; omega
    obtain ⟨rfl, rfl, rfl, rfl⟩ := h2
    rw [← h1]
    rw [show maskM (11, c, l, t, o, e, w_, v, 0, 0, 0, 0, false) = (11, c, l, t, 0, 0, 0, 0, 0, 0, 0, 0, false) from rfl]
    exact encM_A0 rfl)
  rw [HEN.out]
  have b64 := h64
  have b32 := h32
  simp only [M64] at b64
  simp only [M32] at b32
  obtain ⟨bk, bc, bl, bt, bo, be, bw⟩ := b64
  obtain ⟨⟨bv0, bv1⟩, ⟨bd00, bd01⟩, ⟨bd10, bd11⟩, ⟨bd20, bd21⟩, bd30, bd31⟩ := b32
  have n0 := num_len (11 : Int) (by omega) (by omega)
  have n1 := num_len c (by omega) (by omega)
  have n2 := num_len l (by omega) (by omega)
  have n3 := num_len t (by omega) (by omega)
  have n4 := num_len (0 : Int) (by omega) (by omega)
  have hrr := fun W => qsRight_any (11, c, l, t, o, e, w_, v, d0, d1, d2, d3, false) W h64
  rw [(rtB_iff _).2 hr] at hrr
  simp only [mv] at hrr
  have HRR := Hid.in hrr
  clear hrr hr
  have HS0 : Hid (SMA w #[.int .i64 11, .int .i64 c, .int .i64 l, .int .i64 t, .int .i64 o, .int .i64 e, .int .i64 w_, .int .u32 v, .int .u32 d0, .int .u32 d1, .int .u32 d2, .int .u32 d3, .bool false] (w.alloc (.cells #[.int .i64 11, .int .i64 c, .int .i64 l, .int .i64 t, .int .i64 o, .int .i64 e, .int .i64 w_, .int .u32 v, .int .u32 d0, .int .u32 d1, .int .u32 d2, .int .u32 d3, .bool false] 28))) := Hid.in ⟨heap_alloc_new _ _, below_alloc _ _⟩
  have x0 : (w.alloc (.cells #[.int .i64 11, .int .i64 c, .int .i64 l, .int .i64 t, .int .i64 o, .int .i64 e, .int .i64 w_, .int .u32 v, .int .u32 d0, .int .u32 d1, .int .u32 d2, .int .u32 d3, .bool false] 28)).cell? ⟨w.heap.size, 0, none⟩ = some (.int .i64 11) := blk_cell HS0.out.bA rfl
  have x1 : (w.alloc (.cells #[.int .i64 11, .int .i64 c, .int .i64 l, .int .i64 t, .int .i64 o, .int .i64 e, .int .i64 w_, .int .u32 v, .int .u32 d0, .int .u32 d1, .int .u32 d2, .int .u32 d3, .bool false] 28)).cell? ⟨w.heap.size, 1, none⟩ = some (.int .i64 c) := blk_cell HS0.out.bA rfl
  have x2 : (w.alloc (.cells #[.int .i64 11, .int .i64 c, .int .i64 l, .int .i64 t, .int .i64 o, .int .i64 e, .int .i64 w_, .int .u32 v, .int .u32 d0, .int .u32 d1, .int .u32 d2, .int .u32 d3, .bool false] 28)).cell? ⟨w.heap.size, 2, none⟩ = some (.int .i64 l) := blk_cell HS0.out.bA rfl
  have x3 : (w.alloc (.cells #[.int .i64 11, .int .i64 c, .int .i64 l, .int .i64 t, .int .i64 o, .int .i64 e, .int .i64 w_, .int .u32 v, .int .u32 d0, .int .u32 d1, .int .u32 d2, .int .u32 d3, .bool false] 28)).cell? ⟨w.heap.size, 3, none⟩ = some (.int .i64 t) := blk_cell HS0.out.bA rfl
  have x4 : (w.alloc (.cells #[.int .i64 11, .int .i64 c, .int .i64 l, .int .i64 t, .int .i64 o, .int .i64 e, .int .i64 w_, .int .u32 v, .int .u32 d0, .int .u32 d1, .int .u32 d2, .int .u32 d3, .bool false] 28)).cell? ⟨w.heap.size, 4, none⟩ = some (.int .i64 o) := blk_cell HS0.out.bA rfl
  have x5 : (w.alloc (.cells #[.int .i64 11, .int .i64 c, .int .i64 l, .int .i64 t, .int .i64 o, .int .i64 e, .int .i64 w_, .int .u32 v, .int .u32 d0, .int .u32 d1, .int .u32 d2, .int .u32 d3, .bool false] 28)).cell? ⟨w.heap.size, 5, none⟩ = some (.int .i64 e) := blk_cell HS0.out.bA rfl
  have x6 : (w.alloc (.cells #[.int .i64 11, .int .i64 c, .int .i64 l, .int .i64 t, .int .i64 o, .int .i64 e, .int .i64 w_, .int .u32 v, .int .u32 d0, .int .u32 d1, .int .u32 d2, .int .u32 d3, .bool false] 28)).cell? ⟨w.heap.size, 6, none⟩ = some (.int .i64 w_) := blk_cell HS0.out.bA rfl
  have x7 : (w.alloc (.cells #[.int .i64 11, .int .i64 c, .int .i64 l, .int .i64 t, .int .i64 o, .int .i64 e, .int .i64 w_, .int .u32 v, .int .u32 d0, .int .u32 d1, .int .u32 d2, .int .u32 d3, .bool false] 28)).cell? ⟨w.heap.size, 7, none⟩ = some (.int .u32 v) := blk_cell HS0.out.bA rfl
  have x8 : (w.alloc (.cells #[.int .i64 11, .int .i64 c, .int .i64 l, .int .i64 t, .int .i64 o, .int .i64 e, .int .i64 w_, .int .u32 v, .int .u32 d0, .int .u32 d1, .int .u32 d2, .int .u32 d3, .bool false] 28)).cell? ⟨w.heap.size, 8, none⟩ = some (.int .u32 d0) := blk_cell HS0.out.bA rfl
  have x9 : (w.alloc (.cells #[.int .i64 11, .int .i64 c, .int .i64 l, .int .i64 t, .int .i64 o, .int .i64 e, .int .i64 w_, .int .u32 v, .int .u32 d0, .int .u32 d1, .int .u32 d2, .int .u32 d3, .bool false] 28)).cell? ⟨w.heap.size, 9, none⟩ = some (.int .u32 d1) := blk_cell HS0.out.bA rfl
  have x10 : (w.alloc (.cells #[.int .i64 11, .int .i64 c, .int .i64 l, .int .i64 t, .int .i64 o, .int .i64 e, .int .i64 w_, .int .u32 v, .int .u32 d0, .int .u32 d1, .int .u32 d2, .int .u32 d3, .bool false] 28)).cell? ⟨w.heap.size, 10, none⟩ = some (.int .u32 d2) := blk_cell HS0.out.bA rfl
  have x11 : (w.alloc (.cells #[.int .i64 11, .int .i64 c, .int .i64 l, .int .i64 t, .int .i64 o, .int .i64 e, .int .i64 w_, .int .u32 v, .int .u32 d0, .int .u32 d1, .int .u32 d2, .int .u32 d3, .bool false] 28)).cell? ⟨w.heap.size, 11, none⟩ = some (.int .u32 d3) := blk_cell HS0.out.bA rfl
  have x12 : (w.alloc (.cells #[.int .i64 11, .int .i64 c, .int .i64 l, .int .i64 t, .int .i64 o, .int .i64 e, .int .i64 w_, .int .u32 v, .int .u32 d0, .int .u32 d1, .int .u32 d2, .int .u32 d3, .bool false] 28)).cell? ⟨w.heap.size, 12, none⟩ = some (.bool false) := blk_cell HS0.out.bA rfl
  go_enter Tryd.func14, Tryd.ntmps14
  go_wp2_with fail
  refine (HRR.out _).mono ?_
  rintro r w1 ⟨rfl, hb⟩
  have HS := Hid.in (HS0.out.step hb)
  clear hb HS0 HRR
  clear x0 x1 x2 x3 x4 x5 x6 x7 x8 x9 x10 x11 x12
  have HFA : Hid (∀ W, SMA w #[.int .i64 11, .int .i64 c, .int .i64 l, .int .i64 t, .int .i64 o, .int .i64 e, .int .i64 w_, .int .u32 v, .int .u32 d0, .int .u32 d1, .int .u32 d2, .int .u32 d3, .bool false] W → W.cell? ⟨w.heap.size, 0, none⟩ = some (.int .i64 11) ∧ W.cell? ⟨w.heap.size, 1, none⟩ = some (.int .i64 c) ∧ W.cell? ⟨w.heap.size, 2, none⟩ = some (.int .i64 l) ∧ W.cell? ⟨w.heap.size, 3, none⟩ = some (.int .i64 t) ∧ W.cell? ⟨w.heap.size, 4, none⟩ = some (.int .i64 o) ∧ W.cell? ⟨w.heap.size, 5, none⟩ = some (.int .i64 e) ∧ W.cell? ⟨w.heap.size, 6, none⟩ = some (.int .i64 w_) ∧ W.cell? ⟨w.heap.size, 7, none⟩ = some (.int .u32 v) ∧ W.cell? ⟨w.heap.size, 8, none⟩ = some (.int .u32 d0) ∧ W.cell? ⟨w.heap.size, 9, none⟩ = some (.int .u32 d1) ∧ W.cell? ⟨w.heap.size, 10, none⟩ = some (.int .u32 d2) ∧ W.cell? ⟨w.heap.size, 11, none⟩ = some (.int .u32 d3) ∧ W.cell? ⟨w.heap.size, 12, none⟩ = some (.bool false)) := Hid.in (fun W h => ⟨blk_cell h.bA rfl, blk_cell h.bA rfl, blk_cell h.bA rfl, blk_cell h.bA rfl, blk_cell h.bA rfl, blk_cell h.bA rfl, blk_cell h.bA rfl, blk_cell h.bA rfl, blk_cell h.bA rfl, blk_cell h.bA rfl, blk_cell h.bA rfl, blk_cell h.bA rfl, blk_cell h.bA rfl⟩)
  have HO : Hid (Lie w1 none 0 []) := Hid.in (Lie.nil _)
  have HM : Hid (0 = ([] : List Nat).length) := Hid.in rfl
  go_upto_region 3 with fail
  have HSd := Hid.in (HS.out.step (Below.refl _ _).drew)
  have HOd := Hid.in (HO.out.step (Below.refl _ _).drew)
  clear HS HO
  have HS := HSd
  have HO := HOd
  clear HSd HOd
  refine wp_region_but (SMA w #[.int .i64 11, .int .i64 c, .int .i64 l, .int .i64 t, .int .i64 o, .int .i64 e, .int .i64 w_, .int .u32 v, .int .u32 d0, .int .u32 d1, .int .u32 d2, .int .u32 d3, .bool false]) 9 (by kernel_rfl) ?_
  generalize hX : w1.drew = X3 at *
  clear hX
  have HW1 : True := trivial
  refine wpBut_take (i := 0) (v := ?_) rfl (by kernel_rfl) (by kernel_rfl) (by exact fun _ _ _ h => h) HS.out (Or.inl ⟨by rfl, ?_⟩) ?_
  case refine_2 => (intro W _; go_simp; try with_reducible rfl)
  simp only [Act.put, List.setIfInBounds_toArray, List.set_cons_zero, List.set_cons_succ]
  refine wpBut_take (i := 1) (v := ?_) rfl (by kernel_rfl) (by kernel_rfl) (by exact fun _ _ _ h => h) HS.out (Or.inl ⟨by rfl, ?_⟩) ?_
  case refine_2 => (intro W hSw; obtain ⟨s0, s1, s2, s3, s4, s5, s6, s7, s8, s9, s10, s11, s12⟩ := HFA.out W hSw; go_simp; try with_reducible rfl)
  simp only [Act.put, List.setIfInBounds_toArray, List.set_cons_zero, List.set_cons_succ]
  refine wpBut_take (i := 3) (v := ?_) rfl (by kernel_rfl) (by kernel_rfl) (by exact fun _ _ _ h => h) HS.out (Or.inl ⟨by rfl, ?_⟩) ?_
  case refine_2 => (intro W _; go_simp; try with_reducible rfl)
  simp only [Act.put, List.setIfInBounds_toArray, List.set_cons_zero, List.set_cons_succ]
  refine wpBut_take (i := 4) (v := ?_) rfl (by kernel_rfl) (by kernel_rfl) (by exact fun _ _ _ h => h) HS.out (Or.inl ⟨by rfl, ?_⟩) ?_
  case refine_2 => (intro W hSw; obtain ⟨s0, s1, s2, s3, s4, s5, s6, s7, s8, s9, s10, s11, s12⟩ := HFA.out W hSw; go_simp; try with_reducible rfl)
  simp only [Act.put, List.setIfInBounds_toArray, List.set_cons_zero, List.set_cons_succ]
  refine wpBut_take (i := 6) (v := ?_) rfl (by kernel_rfl) (by kernel_rfl) (by exact fun _ _ _ h => h) HS.out (Or.inl ⟨by rfl, ?_⟩) ?_
  case refine_2 => (intro W _; go_simp; try with_reducible rfl)
  simp only [Act.put, List.setIfInBounds_toArray, List.set_cons_zero, List.set_cons_succ]
  refine wpBut_take (i := 7) (v := ?_) rfl (by kernel_rfl) (by kernel_rfl) (by exact fun _ _ _ h => h) HS.out (Or.inl ⟨by rfl, ?_⟩) ?_
  case refine_2 => (intro W hSw; obtain ⟨s0, s1, s2, s3, s4, s5, s6, s7, s8, s9, s10, s11, s12⟩ := HFA.out W hSw; go_simp; try with_reducible rfl)
  simp only [Act.put, List.setIfInBounds_toArray, List.set_cons_zero, List.set_cons_succ]
  refine wpBut_one (i := 2) rfl (by kernel_rfl) (fun K HK => ?_)
  go_simp
  refine (qnum_o none 0 0 [] 11 _ HM.out HO.out (by first | exact Nat.zero_le _ | (simp only [List.length_append, List.length_nil]; omega)) (by omega) (by omega)).mono ?_
  rintro r v2 ⟨a2, M2, c2, rfl, hM, hO, hb⟩
  have HSn := Hid.in (HS.out.step hb)
  have HMn := Hid.in hM
  have HOn := Hid.in hO.lie
  have HW2 := Hid.in (hO.lower (B' := w.heap.size) (by have := HS.out.be.size; omega))
  clear hb hM hO HM HO
  clear HW1
  refine HK.out _ _ (fun _ => HSn.out) ?_
  clear HK K HS
  have HS := HSn
  have HM := HMn
  have HO := HOn
  clear HSn HMn HOn
  try simp only [Act.put, List.setIfInBounds_toArray, List.set_cons_zero, List.set_cons_succ]
  refine wpBut_one (i := 5) rfl (by kernel_rfl) (fun K HK => ?_)
  go_simp
  refine (qnum_o a2 M2 c2 ([] ++ enc (zz 11)) c _ HM.out HO.out (by first | exact Nat.zero_le _ | (simp only [List.length_append, List.length_nil]; omega)) (by omega) (by omega)).mono ?_
  rintro r v3 ⟨a3, M3, c3, rfl, hM, hO, hb⟩
  have HSn := Hid.in (HS.out.step hb)
  have HMn := Hid.in hM
  have HOn := Hid.in hO.lie
  have HW3 := Hid.in (hO.lower (B' := w.heap.size) (by have := HS.out.be.size; omega))
  clear hb hM hO HM HO
  clear HW2
  refine HK.out _ _ (fun _ => HSn.out) ?_
  clear HK K HS
  have HS := HSn
  have HM := HMn
  have HO := HOn
  clear HSn HMn HOn
  try simp only [Act.put, List.setIfInBounds_toArray, List.set_cons_zero, List.set_cons_succ]
  refine wpBut_one (i := 8) rfl (by kernel_rfl) (fun K HK => ?_)
  go_simp
  refine (qnum_o a3 M3 c3 (([] ++ enc (zz 11)) ++ enc (zz c)) l _ HM.out HO.out (by first | exact Nat.zero_le _ | (simp only [List.length_append, List.length_nil]; omega)) (by omega) (by omega)).mono ?_
  rintro r v4 ⟨a4, M4, c4, rfl, hM, hO, hb⟩
  have HSn := Hid.in (HS.out.step hb)
  have HMn := Hid.in hM
  have HOn := Hid.in hO.lie
  have HW4 := Hid.in (hO.lower (B' := w.heap.size) (by have := HS.out.be.size; omega))
  clear hb hM hO HM HO
  clear HW3
  refine HK.out _ _ (fun _ => HSn.out) ?_
  clear HK K HS
  have HS := HSn
  have HM := HMn
  have HO := HOn
  clear HSn HMn HOn
  try simp only [Act.put, List.setIfInBounds_toArray, List.set_cons_zero, List.set_cons_succ]
  refine wpBut_one (i := 9) rfl (by kernel_rfl) (fun K HK => ?_)
  go_simp
  refine HK.out _ _ (fun h => absurd rfl h) ?_
  clear HK K
  try simp only [Act.put, List.setIfInBounds_toArray, List.set_cons_zero, List.set_cons_succ]
  refine wpBut_done (by kernel_rfl) ?_ _
  have x0 : v4.cell? ⟨w.heap.size, 0, none⟩ = some (.int .i64 11) := blk_cell HS.out.bA rfl
  have x3 : v4.cell? ⟨w.heap.size, 3, none⟩ = some (.int .i64 t) := blk_cell HS.out.bA rfl
  go_wp2_with fail
  refine (qnum_o a4 M4 c4 ((([] ++ enc (zz 11)) ++ enc (zz c)) ++ enc (zz l)) t _ HM.out HO.out (by first | exact Nat.zero_le _ | (simp only [List.length_append, List.length_nil]; omega)) (by omega) (by omega)).mono ?_
  rintro r v5 ⟨a5, M5, c5, rfl, hM, hO, hb⟩
  have HSn := Hid.in (HS.out.step hb)
  have HMn := Hid.in hM
  have HOn := Hid.in hO.lie
  have HW5 := Hid.in (hO.lower (B' := w.heap.size) (by have := HS.out.be.size; omega))
  clear hb hM hO HM HO
  clear HW4
  clear HS
  have HS := HSn
  have HM := HMn
  have HO := HOn
  clear HSn HMn HOn
  have x12 : v5.cell? ⟨w.heap.size, 12, none⟩ = some (.bool false) := blk_cell HS.out.bA rfl
  go_wp2_with fail
  refine (qnum_o a5 M5 c5 (((([] ++ enc (zz 11)) ++ enc (zz c)) ++ enc (zz l)) ++ enc (zz t)) 0 _ HM.out HO.out (by first | exact Nat.zero_le _ | (simp only [List.length_append, List.length_nil]; omega)) (by omega) (by omega)).mono ?_
  rintro r v6 ⟨a6, M6, c6, rfl, hM, hO, hb⟩
  have HSn := Hid.in (HS.out.step hb)
  have HMn := Hid.in hM
  have HOn := Hid.in hO.lie
  have HW6 := Hid.in (hO.lower (B' := w.heap.size) (by have := HS.out.be.size; omega))
  clear hb hM hO HM HO
  clear HW5
  clear HS
  have HS := HSn
  have HM := HMn
  have HO := HOn
  clear HSn HMn HOn
  go_wp2
  go_ret
  exact ⟨_, _, _, rfl, HM.out, HW6.out, HS.out.be⟩

set_option maxHeartbeats 6400000 in
set_option maxRecDepth 20000 in
theorem qsPut_A1 (w : World) (c l t o e w_ v d0 d1 d2 d3 : Int) (h32 : M32 (11, c, l, t, o, e, w_, v, d0, d1, d2, d3, true)) (h64 : M64 (11, c, l, t, o, e, w_, v, d0, d1, d2, d3, true)) (hr : rtP (11, c, l, t, o, e, w_, v, d0, d1, d2, d3, true)) :
    Calls Tryd.prog 14 #[.agg #[.int .i64 11, .int .i64 c, .int .i64 l, .int .i64 t, .int .i64 o, .int .i64 e, .int .i64 w_, .int .u32 v, .int .u32 d0, .int .u32 d1, .int .u32 d2, .int .u32 d3, .bool true]] w fun r w' => ∃ ao N cap, r = .returned (.slice ao N cap) ∧ N = (encM (11, c, l, t, o, e, w_, v, d0, d1, d2, d3, true)).length ∧ Own w' w.heap.size ao N cap (encM (11, c, l, t, o, e, w_, v, d0, d1, d2, d3, true)) ∧ Below w.heap.size w w' := by
  have HEN : Hid (encM (11, c, l, t, o, e, w_, v, d0, d1, d2, d3, true) = ((((((((([] ++ enc (zz 11)) ++ enc (zz c)) ++ enc (zz l)) ++ enc (zz t)) ++ enc (zz 1)) ++ enc (zz d0)) ++ enc (zz d1)) ++ enc (zz d2)) ++ enc (zz d3))) := Hid.in (by
    have h1 := mask_eq _ hr
    rw [← h1]
    rw [show maskM (11, c, l, t, o, e, w_, v, d0, d1, d2, d3, true) = (11, c, l, t, 0, 0, 0, 0, d0, d1, d2, d3, true) from rfl]
    exact encM_A1 rfl)
  rw [HEN.out]
  have b64 := h64
  have b32 := h32
  simp only [M64] at b64
  simp only [M32] at b32
  obtain ⟨bk, bc, bl, bt, bo, be, bw⟩ := b64
  obtain ⟨⟨bv0, bv1⟩, ⟨bd00, bd01⟩, ⟨bd10, bd11⟩, ⟨bd20, bd21⟩, bd30, bd31⟩ := b32
  have wrd0 : IntKind.i64.wrap d0 = d0 := by rw [IntKind.wrap_i64]; omega
  have wrd1 : IntKind.i64.wrap d1 = d1 := by rw [IntKind.wrap_i64]; omega
  have wrd2 : IntKind.i64.wrap d2 = d2 := by rw [IntKind.wrap_i64]; omega
  have wrd3 : IntKind.i64.wrap d3 = d3 := by rw [IntKind.wrap_i64]; omega
  have n0 := num_len (11 : Int) (by omega) (by omega)
  have n1 := num_len c (by omega) (by omega)
  have n2 := num_len l (by omega) (by omega)
  have n3 := num_len t (by omega) (by omega)
  have n4 := num_len (1 : Int) (by omega) (by omega)
  have n5 := num_len d0 (by omega) (by omega)
  have n6 := num_len d1 (by omega) (by omega)
  have n7 := num_len d2 (by omega) (by omega)
  have n8 := num_len d3 (by omega) (by omega)
  have hrr := fun W => qsRight_any (11, c, l, t, o, e, w_, v, d0, d1, d2, d3, true) W h64
  rw [(rtB_iff _).2 hr] at hrr
  simp only [mv] at hrr
  have HRR := Hid.in hrr
  clear hrr hr
  have HS0 : Hid (SMA w #[.int .i64 11, .int .i64 c, .int .i64 l, .int .i64 t, .int .i64 o, .int .i64 e, .int .i64 w_, .int .u32 v, .int .u32 d0, .int .u32 d1, .int .u32 d2, .int .u32 d3, .bool true] (w.alloc (.cells #[.int .i64 11, .int .i64 c, .int .i64 l, .int .i64 t, .int .i64 o, .int .i64 e, .int .i64 w_, .int .u32 v, .int .u32 d0, .int .u32 d1, .int .u32 d2, .int .u32 d3, .bool true] 28))) := Hid.in ⟨heap_alloc_new _ _, below_alloc _ _⟩
  have x0 : (w.alloc (.cells #[.int .i64 11, .int .i64 c, .int .i64 l, .int .i64 t, .int .i64 o, .int .i64 e, .int .i64 w_, .int .u32 v, .int .u32 d0, .int .u32 d1, .int .u32 d2, .int .u32 d3, .bool true] 28)).cell? ⟨w.heap.size, 0, none⟩ = some (.int .i64 11) := blk_cell HS0.out.bA rfl
  have x1 : (w.alloc (.cells #[.int .i64 11, .int .i64 c, .int .i64 l, .int .i64 t, .int .i64 o, .int .i64 e, .int .i64 w_, .int .u32 v, .int .u32 d0, .int .u32 d1, .int .u32 d2, .int .u32 d3, .bool true] 28)).cell? ⟨w.heap.size, 1, none⟩ = some (.int .i64 c) := blk_cell HS0.out.bA rfl
  have x2 : (w.alloc (.cells #[.int .i64 11, .int .i64 c, .int .i64 l, .int .i64 t, .int .i64 o, .int .i64 e, .int .i64 w_, .int .u32 v, .int .u32 d0, .int .u32 d1, .int .u32 d2, .int .u32 d3, .bool true] 28)).cell? ⟨w.heap.size, 2, none⟩ = some (.int .i64 l) := blk_cell HS0.out.bA rfl
  have x3 : (w.alloc (.cells #[.int .i64 11, .int .i64 c, .int .i64 l, .int .i64 t, .int .i64 o, .int .i64 e, .int .i64 w_, .int .u32 v, .int .u32 d0, .int .u32 d1, .int .u32 d2, .int .u32 d3, .bool true] 28)).cell? ⟨w.heap.size, 3, none⟩ = some (.int .i64 t) := blk_cell HS0.out.bA rfl
  have x4 : (w.alloc (.cells #[.int .i64 11, .int .i64 c, .int .i64 l, .int .i64 t, .int .i64 o, .int .i64 e, .int .i64 w_, .int .u32 v, .int .u32 d0, .int .u32 d1, .int .u32 d2, .int .u32 d3, .bool true] 28)).cell? ⟨w.heap.size, 4, none⟩ = some (.int .i64 o) := blk_cell HS0.out.bA rfl
  have x5 : (w.alloc (.cells #[.int .i64 11, .int .i64 c, .int .i64 l, .int .i64 t, .int .i64 o, .int .i64 e, .int .i64 w_, .int .u32 v, .int .u32 d0, .int .u32 d1, .int .u32 d2, .int .u32 d3, .bool true] 28)).cell? ⟨w.heap.size, 5, none⟩ = some (.int .i64 e) := blk_cell HS0.out.bA rfl
  have x6 : (w.alloc (.cells #[.int .i64 11, .int .i64 c, .int .i64 l, .int .i64 t, .int .i64 o, .int .i64 e, .int .i64 w_, .int .u32 v, .int .u32 d0, .int .u32 d1, .int .u32 d2, .int .u32 d3, .bool true] 28)).cell? ⟨w.heap.size, 6, none⟩ = some (.int .i64 w_) := blk_cell HS0.out.bA rfl
  have x7 : (w.alloc (.cells #[.int .i64 11, .int .i64 c, .int .i64 l, .int .i64 t, .int .i64 o, .int .i64 e, .int .i64 w_, .int .u32 v, .int .u32 d0, .int .u32 d1, .int .u32 d2, .int .u32 d3, .bool true] 28)).cell? ⟨w.heap.size, 7, none⟩ = some (.int .u32 v) := blk_cell HS0.out.bA rfl
  have x8 : (w.alloc (.cells #[.int .i64 11, .int .i64 c, .int .i64 l, .int .i64 t, .int .i64 o, .int .i64 e, .int .i64 w_, .int .u32 v, .int .u32 d0, .int .u32 d1, .int .u32 d2, .int .u32 d3, .bool true] 28)).cell? ⟨w.heap.size, 8, none⟩ = some (.int .u32 d0) := blk_cell HS0.out.bA rfl
  have x9 : (w.alloc (.cells #[.int .i64 11, .int .i64 c, .int .i64 l, .int .i64 t, .int .i64 o, .int .i64 e, .int .i64 w_, .int .u32 v, .int .u32 d0, .int .u32 d1, .int .u32 d2, .int .u32 d3, .bool true] 28)).cell? ⟨w.heap.size, 9, none⟩ = some (.int .u32 d1) := blk_cell HS0.out.bA rfl
  have x10 : (w.alloc (.cells #[.int .i64 11, .int .i64 c, .int .i64 l, .int .i64 t, .int .i64 o, .int .i64 e, .int .i64 w_, .int .u32 v, .int .u32 d0, .int .u32 d1, .int .u32 d2, .int .u32 d3, .bool true] 28)).cell? ⟨w.heap.size, 10, none⟩ = some (.int .u32 d2) := blk_cell HS0.out.bA rfl
  have x11 : (w.alloc (.cells #[.int .i64 11, .int .i64 c, .int .i64 l, .int .i64 t, .int .i64 o, .int .i64 e, .int .i64 w_, .int .u32 v, .int .u32 d0, .int .u32 d1, .int .u32 d2, .int .u32 d3, .bool true] 28)).cell? ⟨w.heap.size, 11, none⟩ = some (.int .u32 d3) := blk_cell HS0.out.bA rfl
  have x12 : (w.alloc (.cells #[.int .i64 11, .int .i64 c, .int .i64 l, .int .i64 t, .int .i64 o, .int .i64 e, .int .i64 w_, .int .u32 v, .int .u32 d0, .int .u32 d1, .int .u32 d2, .int .u32 d3, .bool true] 28)).cell? ⟨w.heap.size, 12, none⟩ = some (.bool true) := blk_cell HS0.out.bA rfl
  go_enter Tryd.func14, Tryd.ntmps14
  go_wp2_with fail
  refine (HRR.out _).mono ?_
  rintro r w1 ⟨rfl, hb⟩
  have HS := Hid.in (HS0.out.step hb)
  clear hb HS0 HRR
  clear x0 x1 x2 x3 x4 x5 x6 x7 x8 x9 x10 x11 x12
  have HFA : Hid (∀ W, SMA w #[.int .i64 11, .int .i64 c, .int .i64 l, .int .i64 t, .int .i64 o, .int .i64 e, .int .i64 w_, .int .u32 v, .int .u32 d0, .int .u32 d1, .int .u32 d2, .int .u32 d3, .bool true] W → W.cell? ⟨w.heap.size, 0, none⟩ = some (.int .i64 11) ∧ W.cell? ⟨w.heap.size, 1, none⟩ = some (.int .i64 c) ∧ W.cell? ⟨w.heap.size, 2, none⟩ = some (.int .i64 l) ∧ W.cell? ⟨w.heap.size, 3, none⟩ = some (.int .i64 t) ∧ W.cell? ⟨w.heap.size, 4, none⟩ = some (.int .i64 o) ∧ W.cell? ⟨w.heap.size, 5, none⟩ = some (.int .i64 e) ∧ W.cell? ⟨w.heap.size, 6, none⟩ = some (.int .i64 w_) ∧ W.cell? ⟨w.heap.size, 7, none⟩ = some (.int .u32 v) ∧ W.cell? ⟨w.heap.size, 8, none⟩ = some (.int .u32 d0) ∧ W.cell? ⟨w.heap.size, 9, none⟩ = some (.int .u32 d1) ∧ W.cell? ⟨w.heap.size, 10, none⟩ = some (.int .u32 d2) ∧ W.cell? ⟨w.heap.size, 11, none⟩ = some (.int .u32 d3) ∧ W.cell? ⟨w.heap.size, 12, none⟩ = some (.bool true)) := Hid.in (fun W h => ⟨blk_cell h.bA rfl, blk_cell h.bA rfl, blk_cell h.bA rfl, blk_cell h.bA rfl, blk_cell h.bA rfl, blk_cell h.bA rfl, blk_cell h.bA rfl, blk_cell h.bA rfl, blk_cell h.bA rfl, blk_cell h.bA rfl, blk_cell h.bA rfl, blk_cell h.bA rfl, blk_cell h.bA rfl⟩)
  have HO : Hid (Lie w1 none 0 []) := Hid.in (Lie.nil _)
  have HM : Hid (0 = ([] : List Nat).length) := Hid.in rfl
  go_upto_region 3 with fail
  have HSd := Hid.in (HS.out.step (Below.refl _ _).drew)
  have HOd := Hid.in (HO.out.step (Below.refl _ _).drew)
  clear HS HO
  have HS := HSd
  have HO := HOd
  clear HSd HOd
  refine wp_region_but (SMA w #[.int .i64 11, .int .i64 c, .int .i64 l, .int .i64 t, .int .i64 o, .int .i64 e, .int .i64 w_, .int .u32 v, .int .u32 d0, .int .u32 d1, .int .u32 d2, .int .u32 d3, .bool true]) 9 (by kernel_rfl) ?_
  generalize hX : w1.drew = X3 at *
  clear hX
  have HW1 : True := trivial
  refine wpBut_take (i := 0) (v := ?_) rfl (by kernel_rfl) (by kernel_rfl) (by exact fun _ _ _ h => h) HS.out (Or.inl ⟨by rfl, ?_⟩) ?_
  case refine_2 => (intro W _; go_simp; try with_reducible rfl)
  simp only [Act.put, List.setIfInBounds_toArray, List.set_cons_zero, List.set_cons_succ]
  refine wpBut_take (i := 1) (v := ?_) rfl (by kernel_rfl) (by kernel_rfl) (by exact fun _ _ _ h => h) HS.out (Or.inl ⟨by rfl, ?_⟩) ?_
  case refine_2 => (intro W hSw; obtain ⟨s0, s1, s2, s3, s4, s5, s6, s7, s8, s9, s10, s11, s12⟩ := HFA.out W hSw; go_simp; try with_reducible rfl)
  simp only [Act.put, List.setIfInBounds_toArray, List.set_cons_zero, List.set_cons_succ]
  refine wpBut_take (i := 3) (v := ?_) rfl (by kernel_rfl) (by kernel_rfl) (by exact fun _ _ _ h => h) HS.out (Or.inl ⟨by rfl, ?_⟩) ?_
  case refine_2 => (intro W _; go_simp; try with_reducible rfl)
  simp only [Act.put, List.setIfInBounds_toArray, List.set_cons_zero, List.set_cons_succ]
  refine wpBut_take (i := 4) (v := ?_) rfl (by kernel_rfl) (by kernel_rfl) (by exact fun _ _ _ h => h) HS.out (Or.inl ⟨by rfl, ?_⟩) ?_
  case refine_2 => (intro W hSw; obtain ⟨s0, s1, s2, s3, s4, s5, s6, s7, s8, s9, s10, s11, s12⟩ := HFA.out W hSw; go_simp; try with_reducible rfl)
  simp only [Act.put, List.setIfInBounds_toArray, List.set_cons_zero, List.set_cons_succ]
  refine wpBut_take (i := 6) (v := ?_) rfl (by kernel_rfl) (by kernel_rfl) (by exact fun _ _ _ h => h) HS.out (Or.inl ⟨by rfl, ?_⟩) ?_
  case refine_2 => (intro W _; go_simp; try with_reducible rfl)
  simp only [Act.put, List.setIfInBounds_toArray, List.set_cons_zero, List.set_cons_succ]
  refine wpBut_take (i := 7) (v := ?_) rfl (by kernel_rfl) (by kernel_rfl) (by exact fun _ _ _ h => h) HS.out (Or.inl ⟨by rfl, ?_⟩) ?_
  case refine_2 => (intro W hSw; obtain ⟨s0, s1, s2, s3, s4, s5, s6, s7, s8, s9, s10, s11, s12⟩ := HFA.out W hSw; go_simp; try with_reducible rfl)
  simp only [Act.put, List.setIfInBounds_toArray, List.set_cons_zero, List.set_cons_succ]
  refine wpBut_one (i := 2) rfl (by kernel_rfl) (fun K HK => ?_)
  go_simp
  refine (qnum_o none 0 0 [] 11 _ HM.out HO.out (by first | exact Nat.zero_le _ | (simp only [List.length_append, List.length_nil]; omega)) (by omega) (by omega)).mono ?_
  rintro r v2 ⟨a2, M2, c2, rfl, hM, hO, hb⟩
  have HSn := Hid.in (HS.out.step hb)
  have HMn := Hid.in hM
  have HOn := Hid.in hO.lie
  have HW2 := Hid.in (hO.lower (B' := w.heap.size) (by have := HS.out.be.size; omega))
  clear hb hM hO HM HO
  clear HW1
  refine HK.out _ _ (fun _ => HSn.out) ?_
  clear HK K HS
  have HS := HSn
  have HM := HMn
  have HO := HOn
  clear HSn HMn HOn
  try simp only [Act.put, List.setIfInBounds_toArray, List.set_cons_zero, List.set_cons_succ]
  refine wpBut_one (i := 5) rfl (by kernel_rfl) (fun K HK => ?_)
  go_simp
  refine (qnum_o a2 M2 c2 ([] ++ enc (zz 11)) c _ HM.out HO.out (by first | exact Nat.zero_le _ | (simp only [List.length_append, List.length_nil]; omega)) (by omega) (by omega)).mono ?_
  rintro r v3 ⟨a3, M3, c3, rfl, hM, hO, hb⟩
  have HSn := Hid.in (HS.out.step hb)
  have HMn := Hid.in hM
  have HOn := Hid.in hO.lie
  have HW3 := Hid.in (hO.lower (B' := w.heap.size) (by have := HS.out.be.size; omega))
  clear hb hM hO HM HO
  clear HW2
  refine HK.out _ _ (fun _ => HSn.out) ?_
  clear HK K HS
  have HS := HSn
  have HM := HMn
  have HO := HOn
  clear HSn HMn HOn
  try simp only [Act.put, List.setIfInBounds_toArray, List.set_cons_zero, List.set_cons_succ]
  refine wpBut_one (i := 8) rfl (by kernel_rfl) (fun K HK => ?_)
  go_simp
  refine (qnum_o a3 M3 c3 (([] ++ enc (zz 11)) ++ enc (zz c)) l _ HM.out HO.out (by first | exact Nat.zero_le _ | (simp only [List.length_append, List.length_nil]; omega)) (by omega) (by omega)).mono ?_
  rintro r v4 ⟨a4, M4, c4, rfl, hM, hO, hb⟩
  have HSn := Hid.in (HS.out.step hb)
  have HMn := Hid.in hM
  have HOn := Hid.in hO.lie
  have HW4 := Hid.in (hO.lower (B' := w.heap.size) (by have := HS.out.be.size; omega))
  clear hb hM hO HM HO
  clear HW3
  refine HK.out _ _ (fun _ => HSn.out) ?_
  clear HK K HS
  have HS := HSn
  have HM := HMn
  have HO := HOn
  clear HSn HMn HOn
  try simp only [Act.put, List.setIfInBounds_toArray, List.set_cons_zero, List.set_cons_succ]
  refine wpBut_one (i := 9) rfl (by kernel_rfl) (fun K HK => ?_)
  go_simp
  refine HK.out _ _ (fun h => absurd rfl h) ?_
  clear HK K
  try simp only [Act.put, List.setIfInBounds_toArray, List.set_cons_zero, List.set_cons_succ]
  refine wpBut_done (by kernel_rfl) ?_ _
  have x0 : v4.cell? ⟨w.heap.size, 0, none⟩ = some (.int .i64 11) := blk_cell HS.out.bA rfl
  have x3 : v4.cell? ⟨w.heap.size, 3, none⟩ = some (.int .i64 t) := blk_cell HS.out.bA rfl
  go_wp2_with fail
  refine (qnum_o a4 M4 c4 ((([] ++ enc (zz 11)) ++ enc (zz c)) ++ enc (zz l)) t _ HM.out HO.out (by first | exact Nat.zero_le _ | (simp only [List.length_append, List.length_nil]; omega)) (by omega) (by omega)).mono ?_
  rintro r v5 ⟨a5, M5, c5, rfl, hM, hO, hb⟩
  have HSn := Hid.in (HS.out.step hb)
  have HMn := Hid.in hM
  have HOn := Hid.in hO.lie
  have HW5 := Hid.in (hO.lower (B' := w.heap.size) (by have := HS.out.be.size; omega))
  clear hb hM hO HM HO
  clear HW4
  clear HS
  have HS := HSn
  have HM := HMn
  have HO := HOn
  clear HSn HMn HOn
  have x12 : v5.cell? ⟨w.heap.size, 12, none⟩ = some (.bool true) := blk_cell HS.out.bA rfl
  go_wp2_with fail
  refine (qnum_o a5 M5 c5 (((([] ++ enc (zz 11)) ++ enc (zz c)) ++ enc (zz l)) ++ enc (zz t)) 1 _ HM.out HO.out (by first | exact Nat.zero_le _ | (simp only [List.length_append, List.length_nil]; omega)) (by omega) (by omega)).mono ?_
  rintro r v6 ⟨a6, M6, c6, rfl, hM, hO, hb⟩
  have HSn := Hid.in (HS.out.step hb)
  have HMn := Hid.in hM
  have HOn := Hid.in hO.lie
  have HW6 := Hid.in (hO.lower (B' := w.heap.size) (by have := HS.out.be.size; omega))
  clear hb hM hO HM HO
  clear HW5
  clear HS
  have HS := HSn
  have HM := HMn
  have HO := HOn
  clear HSn HMn HOn
  go_wp2_with fail
  refine wp_loop_rounds 5 ?_
  rw [rounds_succ]
  have x8 : v6.cell? ⟨w.heap.size, 8, none⟩ = some (.int .u32 d0) := blk_cell HS.out.bA rfl
  go_wp2_with fail
  refine (qnum_o a6 M6 c6 ((((([] ++ enc (zz 11)) ++ enc (zz c)) ++ enc (zz l)) ++ enc (zz t)) ++ enc (zz 1)) d0 _ HM.out HO.out (by first | exact Nat.zero_le _ | (simp only [List.length_append, List.length_nil]; omega)) (by omega) (by omega)).mono ?_
  rintro r v7 ⟨a7, M7, c7, rfl, hM, hO, hb⟩
  have HSn := Hid.in (HS.out.step hb)
  have HMn := Hid.in hM
  have HOn := Hid.in hO.lie
  have HW7 := Hid.in (hO.lower (B' := w.heap.size) (by have := HS.out.be.size; omega))
  clear hb hM hO HM HO
  clear HW6
  clear HS
  have HS := HSn
  have HM := HMn
  have HO := HOn
  clear HSn HMn HOn
  go_wp2_with fail
  rw [rounds_succ]
  have x9 : v7.cell? ⟨w.heap.size, 9, none⟩ = some (.int .u32 d1) := blk_cell HS.out.bA rfl
  go_wp2_with fail
  refine (qnum_o a7 M7 c7 (((((([] ++ enc (zz 11)) ++ enc (zz c)) ++ enc (zz l)) ++ enc (zz t)) ++ enc (zz 1)) ++ enc (zz d0)) d1 _ HM.out HO.out (by first | exact Nat.zero_le _ | (simp only [List.length_append, List.length_nil]; omega)) (by omega) (by omega)).mono ?_
  rintro r v8 ⟨a8, M8, c8, rfl, hM, hO, hb⟩
  have HSn := Hid.in (HS.out.step hb)
  have HMn := Hid.in hM
  have HOn := Hid.in hO.lie
  have HW8 := Hid.in (hO.lower (B' := w.heap.size) (by have := HS.out.be.size; omega))
  clear hb hM hO HM HO
  clear HW7
  clear HS
  have HS := HSn
  have HM := HMn
  have HO := HOn
  clear HSn HMn HOn
  go_wp2_with fail
  rw [rounds_succ]
  have x10 : v8.cell? ⟨w.heap.size, 10, none⟩ = some (.int .u32 d2) := blk_cell HS.out.bA rfl
  go_wp2_with fail
  refine (qnum_o a8 M8 c8 ((((((([] ++ enc (zz 11)) ++ enc (zz c)) ++ enc (zz l)) ++ enc (zz t)) ++ enc (zz 1)) ++ enc (zz d0)) ++ enc (zz d1)) d2 _ HM.out HO.out (by first | exact Nat.zero_le _ | (simp only [List.length_append, List.length_nil]; omega)) (by omega) (by omega)).mono ?_
  rintro r v9 ⟨a9, M9, c9, rfl, hM, hO, hb⟩
  have HSn := Hid.in (HS.out.step hb)
  have HMn := Hid.in hM
  have HOn := Hid.in hO.lie
  have HW9 := Hid.in (hO.lower (B' := w.heap.size) (by have := HS.out.be.size; omega))
  clear hb hM hO HM HO
  clear HW8
  clear HS
  have HS := HSn
  have HM := HMn
  have HO := HOn
  clear HSn HMn HOn
  go_wp2_with fail
  rw [rounds_succ]
  have x11 : v9.cell? ⟨w.heap.size, 11, none⟩ = some (.int .u32 d3) := blk_cell HS.out.bA rfl
  go_wp2_with fail
  refine (qnum_o a9 M9 c9 (((((((([] ++ enc (zz 11)) ++ enc (zz c)) ++ enc (zz l)) ++ enc (zz t)) ++ enc (zz 1)) ++ enc (zz d0)) ++ enc (zz d1)) ++ enc (zz d2)) d3 _ HM.out HO.out (by first | exact Nat.zero_le _ | (simp only [List.length_append, List.length_nil]; omega)) (by omega) (by omega)).mono ?_
  rintro r v10 ⟨a10, M10, c10, rfl, hM, hO, hb⟩
  have HSn := Hid.in (HS.out.step hb)
  have HMn := Hid.in hM
  have HOn := Hid.in hO.lie
  have HW10 := Hid.in (hO.lower (B' := w.heap.size) (by have := HS.out.be.size; omega))
  clear hb hM hO HM HO
  clear HW9
  clear HS
  have HS := HSn
  have HM := HMn
  have HO := HOn
  clear HSn HMn HOn
  go_wp2_with fail
  rw [rounds_succ]
  go_wp2
  go_ret
  exact ⟨_, _, _, rfl, HM.out, HW10.out, HS.out.be⟩

set_option maxHeartbeats 6400000 in
set_option maxRecDepth 20000 in
theorem qsPut_B (w : World) (k c l t o e w_ v d0 d1 d2 d3 : Int) (h : Bool) (g3 : ¬ k = 3) (g8 : ¬ k = 8) (g14 : ¬ k = 14) (g9 : ¬ k = 9) (g5 : ¬ k = 5) (g13 : ¬ k = 13) (g11 : ¬ k = 11) (h32 : M32 (k, c, l, t, o, e, w_, v, d0, d1, d2, d3, h)) (h64 : M64 (k, c, l, t, o, e, w_, v, d0, d1, d2, d3, h)) (hr : rtP (k, c, l, t, o, e, w_, v, d0, d1, d2, d3, h)) :
    Calls Tryd.prog 14 #[.agg #[.int .i64 k, .int .i64 c, .int .i64 l, .int .i64 t, .int .i64 o, .int .i64 e, .int .i64 w_, .int .u32 v, .int .u32 d0, .int .u32 d1, .int .u32 d2, .int .u32 d3, .bool h]] w fun r w' => ∃ ao N cap, r = .returned (.slice ao N cap) ∧ N = (encM (k, c, l, t, o, e, w_, v, d0, d1, d2, d3, h)).length ∧ Own w' w.heap.size ao N cap (encM (k, c, l, t, o, e, w_, v, d0, d1, d2, d3, h)) ∧ Below w.heap.size w w' := by
  have HEN : Hid (encM (k, c, l, t, o, e, w_, v, d0, d1, d2, d3, h) = ((([] ++ enc (zz k)) ++ enc (zz c)) ++ enc (zz l))) := Hid.in (by
    have h1 := mask_eq _ hr
    rw [← h1]
    rw [show maskM (k, c, l, t, o, e, w_, v, d0, d1, d2, d3, h) = (k, c, l, 0, 0, 0, 0, 0, 0, 0, 0, 0, false) from by simp [maskM, g3, g8, g14, g9, g5, g13, g11]]
    exact encM_B ⟨by omega, g9, g5, g13, g11⟩)
  rw [HEN.out]
  have b64 := h64
  have b32 := h32
  simp only [M64] at b64
  simp only [M32] at b32
  obtain ⟨bk, bc, bl, bt, bo, be, bw⟩ := b64
  obtain ⟨⟨bv0, bv1⟩, ⟨bd00, bd01⟩, ⟨bd10, bd11⟩, ⟨bd20, bd21⟩, bd30, bd31⟩ := b32
  have n0 := num_len k (by omega) (by omega)
  have n1 := num_len c (by omega) (by omega)
  have n2 := num_len l (by omega) (by omega)
  have hrr := fun W => qsRight_any (k, c, l, t, o, e, w_, v, d0, d1, d2, d3, h) W h64
  rw [(rtB_iff _).2 hr] at hrr
  simp only [mv] at hrr
  have HRR := Hid.in hrr
  clear hrr hr
  have HS0 : Hid (SMA w #[.int .i64 k, .int .i64 c, .int .i64 l, .int .i64 t, .int .i64 o, .int .i64 e, .int .i64 w_, .int .u32 v, .int .u32 d0, .int .u32 d1, .int .u32 d2, .int .u32 d3, .bool h] (w.alloc (.cells #[.int .i64 k, .int .i64 c, .int .i64 l, .int .i64 t, .int .i64 o, .int .i64 e, .int .i64 w_, .int .u32 v, .int .u32 d0, .int .u32 d1, .int .u32 d2, .int .u32 d3, .bool h] 28))) := Hid.in ⟨heap_alloc_new _ _, below_alloc _ _⟩
  have x0 : (w.alloc (.cells #[.int .i64 k, .int .i64 c, .int .i64 l, .int .i64 t, .int .i64 o, .int .i64 e, .int .i64 w_, .int .u32 v, .int .u32 d0, .int .u32 d1, .int .u32 d2, .int .u32 d3, .bool h] 28)).cell? ⟨w.heap.size, 0, none⟩ = some (.int .i64 k) := blk_cell HS0.out.bA rfl
  have x1 : (w.alloc (.cells #[.int .i64 k, .int .i64 c, .int .i64 l, .int .i64 t, .int .i64 o, .int .i64 e, .int .i64 w_, .int .u32 v, .int .u32 d0, .int .u32 d1, .int .u32 d2, .int .u32 d3, .bool h] 28)).cell? ⟨w.heap.size, 1, none⟩ = some (.int .i64 c) := blk_cell HS0.out.bA rfl
  have x2 : (w.alloc (.cells #[.int .i64 k, .int .i64 c, .int .i64 l, .int .i64 t, .int .i64 o, .int .i64 e, .int .i64 w_, .int .u32 v, .int .u32 d0, .int .u32 d1, .int .u32 d2, .int .u32 d3, .bool h] 28)).cell? ⟨w.heap.size, 2, none⟩ = some (.int .i64 l) := blk_cell HS0.out.bA rfl
  have x3 : (w.alloc (.cells #[.int .i64 k, .int .i64 c, .int .i64 l, .int .i64 t, .int .i64 o, .int .i64 e, .int .i64 w_, .int .u32 v, .int .u32 d0, .int .u32 d1, .int .u32 d2, .int .u32 d3, .bool h] 28)).cell? ⟨w.heap.size, 3, none⟩ = some (.int .i64 t) := blk_cell HS0.out.bA rfl
  have x4 : (w.alloc (.cells #[.int .i64 k, .int .i64 c, .int .i64 l, .int .i64 t, .int .i64 o, .int .i64 e, .int .i64 w_, .int .u32 v, .int .u32 d0, .int .u32 d1, .int .u32 d2, .int .u32 d3, .bool h] 28)).cell? ⟨w.heap.size, 4, none⟩ = some (.int .i64 o) := blk_cell HS0.out.bA rfl
  have x5 : (w.alloc (.cells #[.int .i64 k, .int .i64 c, .int .i64 l, .int .i64 t, .int .i64 o, .int .i64 e, .int .i64 w_, .int .u32 v, .int .u32 d0, .int .u32 d1, .int .u32 d2, .int .u32 d3, .bool h] 28)).cell? ⟨w.heap.size, 5, none⟩ = some (.int .i64 e) := blk_cell HS0.out.bA rfl
  have x6 : (w.alloc (.cells #[.int .i64 k, .int .i64 c, .int .i64 l, .int .i64 t, .int .i64 o, .int .i64 e, .int .i64 w_, .int .u32 v, .int .u32 d0, .int .u32 d1, .int .u32 d2, .int .u32 d3, .bool h] 28)).cell? ⟨w.heap.size, 6, none⟩ = some (.int .i64 w_) := blk_cell HS0.out.bA rfl
  have x7 : (w.alloc (.cells #[.int .i64 k, .int .i64 c, .int .i64 l, .int .i64 t, .int .i64 o, .int .i64 e, .int .i64 w_, .int .u32 v, .int .u32 d0, .int .u32 d1, .int .u32 d2, .int .u32 d3, .bool h] 28)).cell? ⟨w.heap.size, 7, none⟩ = some (.int .u32 v) := blk_cell HS0.out.bA rfl
  have x8 : (w.alloc (.cells #[.int .i64 k, .int .i64 c, .int .i64 l, .int .i64 t, .int .i64 o, .int .i64 e, .int .i64 w_, .int .u32 v, .int .u32 d0, .int .u32 d1, .int .u32 d2, .int .u32 d3, .bool h] 28)).cell? ⟨w.heap.size, 8, none⟩ = some (.int .u32 d0) := blk_cell HS0.out.bA rfl
  have x9 : (w.alloc (.cells #[.int .i64 k, .int .i64 c, .int .i64 l, .int .i64 t, .int .i64 o, .int .i64 e, .int .i64 w_, .int .u32 v, .int .u32 d0, .int .u32 d1, .int .u32 d2, .int .u32 d3, .bool h] 28)).cell? ⟨w.heap.size, 9, none⟩ = some (.int .u32 d1) := blk_cell HS0.out.bA rfl
  have x10 : (w.alloc (.cells #[.int .i64 k, .int .i64 c, .int .i64 l, .int .i64 t, .int .i64 o, .int .i64 e, .int .i64 w_, .int .u32 v, .int .u32 d0, .int .u32 d1, .int .u32 d2, .int .u32 d3, .bool h] 28)).cell? ⟨w.heap.size, 10, none⟩ = some (.int .u32 d2) := blk_cell HS0.out.bA rfl
  have x11 : (w.alloc (.cells #[.int .i64 k, .int .i64 c, .int .i64 l, .int .i64 t, .int .i64 o, .int .i64 e, .int .i64 w_, .int .u32 v, .int .u32 d0, .int .u32 d1, .int .u32 d2, .int .u32 d3, .bool h] 28)).cell? ⟨w.heap.size, 11, none⟩ = some (.int .u32 d3) := blk_cell HS0.out.bA rfl
  have x12 : (w.alloc (.cells #[.int .i64 k, .int .i64 c, .int .i64 l, .int .i64 t, .int .i64 o, .int .i64 e, .int .i64 w_, .int .u32 v, .int .u32 d0, .int .u32 d1, .int .u32 d2, .int .u32 d3, .bool h] 28)).cell? ⟨w.heap.size, 12, none⟩ = some (.bool h) := blk_cell HS0.out.bA rfl
  go_enter Tryd.func14, Tryd.ntmps14
  go_wp2_with fail
  refine (HRR.out _).mono ?_
  rintro r w1 ⟨rfl, hb⟩
  have HS := Hid.in (HS0.out.step hb)
  clear hb HS0 HRR
  clear x0 x1 x2 x3 x4 x5 x6 x7 x8 x9 x10 x11 x12
  have HFA : Hid (∀ W, SMA w #[.int .i64 k, .int .i64 c, .int .i64 l, .int .i64 t, .int .i64 o, .int .i64 e, .int .i64 w_, .int .u32 v, .int .u32 d0, .int .u32 d1, .int .u32 d2, .int .u32 d3, .bool h] W → W.cell? ⟨w.heap.size, 0, none⟩ = some (.int .i64 k) ∧ W.cell? ⟨w.heap.size, 1, none⟩ = some (.int .i64 c) ∧ W.cell? ⟨w.heap.size, 2, none⟩ = some (.int .i64 l) ∧ W.cell? ⟨w.heap.size, 3, none⟩ = some (.int .i64 t) ∧ W.cell? ⟨w.heap.size, 4, none⟩ = some (.int .i64 o) ∧ W.cell? ⟨w.heap.size, 5, none⟩ = some (.int .i64 e) ∧ W.cell? ⟨w.heap.size, 6, none⟩ = some (.int .i64 w_) ∧ W.cell? ⟨w.heap.size, 7, none⟩ = some (.int .u32 v) ∧ W.cell? ⟨w.heap.size, 8, none⟩ = some (.int .u32 d0) ∧ W.cell? ⟨w.heap.size, 9, none⟩ = some (.int .u32 d1) ∧ W.cell? ⟨w.heap.size, 10, none⟩ = some (.int .u32 d2) ∧ W.cell? ⟨w.heap.size, 11, none⟩ = some (.int .u32 d3) ∧ W.cell? ⟨w.heap.size, 12, none⟩ = some (.bool h)) := Hid.in (fun W h => ⟨blk_cell h.bA rfl, blk_cell h.bA rfl, blk_cell h.bA rfl, blk_cell h.bA rfl, blk_cell h.bA rfl, blk_cell h.bA rfl, blk_cell h.bA rfl, blk_cell h.bA rfl, blk_cell h.bA rfl, blk_cell h.bA rfl, blk_cell h.bA rfl, blk_cell h.bA rfl, blk_cell h.bA rfl⟩)
  have HO : Hid (Lie w1 none 0 []) := Hid.in (Lie.nil _)
  have HM : Hid (0 = ([] : List Nat).length) := Hid.in rfl
  go_upto_region 3 with fail
  have HSd := Hid.in (HS.out.step (Below.refl _ _).drew)
  have HOd := Hid.in (HO.out.step (Below.refl _ _).drew)
  clear HS HO
  have HS := HSd
  have HO := HOd
  clear HSd HOd
  refine wp_region_but (SMA w #[.int .i64 k, .int .i64 c, .int .i64 l, .int .i64 t, .int .i64 o, .int .i64 e, .int .i64 w_, .int .u32 v, .int .u32 d0, .int .u32 d1, .int .u32 d2, .int .u32 d3, .bool h]) 9 (by kernel_rfl) ?_
  generalize hX : w1.drew = X3 at *
  clear hX
  have HW1 : True := trivial
  refine wpBut_take (i := 0) (v := ?_) rfl (by kernel_rfl) (by kernel_rfl) (by exact fun _ _ _ h => h) HS.out (Or.inl ⟨by rfl, ?_⟩) ?_
  case refine_2 => (intro W _; go_simp; try with_reducible rfl)
  simp only [Act.put, List.setIfInBounds_toArray, List.set_cons_zero, List.set_cons_succ]
  refine wpBut_take (i := 1) (v := ?_) rfl (by kernel_rfl) (by kernel_rfl) (by exact fun _ _ _ h => h) HS.out (Or.inl ⟨by rfl, ?_⟩) ?_
  case refine_2 => (intro W hSw; obtain ⟨s0, s1, s2, s3, s4, s5, s6, s7, s8, s9, s10, s11, s12⟩ := HFA.out W hSw; go_simp; try with_reducible rfl)
  simp only [Act.put, List.setIfInBounds_toArray, List.set_cons_zero, List.set_cons_succ]
  refine wpBut_take (i := 3) (v := ?_) rfl (by kernel_rfl) (by kernel_rfl) (by exact fun _ _ _ h => h) HS.out (Or.inl ⟨by rfl, ?_⟩) ?_
  case refine_2 => (intro W _; go_simp; try with_reducible rfl)
  simp only [Act.put, List.setIfInBounds_toArray, List.set_cons_zero, List.set_cons_succ]
  refine wpBut_take (i := 4) (v := ?_) rfl (by kernel_rfl) (by kernel_rfl) (by exact fun _ _ _ h => h) HS.out (Or.inl ⟨by rfl, ?_⟩) ?_
  case refine_2 => (intro W hSw; obtain ⟨s0, s1, s2, s3, s4, s5, s6, s7, s8, s9, s10, s11, s12⟩ := HFA.out W hSw; go_simp; try with_reducible rfl)
  simp only [Act.put, List.setIfInBounds_toArray, List.set_cons_zero, List.set_cons_succ]
  refine wpBut_take (i := 6) (v := ?_) rfl (by kernel_rfl) (by kernel_rfl) (by exact fun _ _ _ h => h) HS.out (Or.inl ⟨by rfl, ?_⟩) ?_
  case refine_2 => (intro W _; go_simp; try with_reducible rfl)
  simp only [Act.put, List.setIfInBounds_toArray, List.set_cons_zero, List.set_cons_succ]
  refine wpBut_take (i := 7) (v := ?_) rfl (by kernel_rfl) (by kernel_rfl) (by exact fun _ _ _ h => h) HS.out (Or.inl ⟨by rfl, ?_⟩) ?_
  case refine_2 => (intro W hSw; obtain ⟨s0, s1, s2, s3, s4, s5, s6, s7, s8, s9, s10, s11, s12⟩ := HFA.out W hSw; go_simp; try with_reducible rfl)
  simp only [Act.put, List.setIfInBounds_toArray, List.set_cons_zero, List.set_cons_succ]
  refine wpBut_one (i := 2) rfl (by kernel_rfl) (fun K HK => ?_)
  go_simp
  refine (qnum_o none 0 0 [] k _ HM.out HO.out (by first | exact Nat.zero_le _ | (simp only [List.length_append, List.length_nil]; omega)) (by omega) (by omega)).mono ?_
  rintro r v2 ⟨a2, M2, c2, rfl, hM, hO, hb⟩
  have HSn := Hid.in (HS.out.step hb)
  have HMn := Hid.in hM
  have HOn := Hid.in hO.lie
  have HW2 := Hid.in (hO.lower (B' := w.heap.size) (by have := HS.out.be.size; omega))
  clear hb hM hO HM HO
  clear HW1
  refine HK.out _ _ (fun _ => HSn.out) ?_
  clear HK K HS
  have HS := HSn
  have HM := HMn
  have HO := HOn
  clear HSn HMn HOn
  try simp only [Act.put, List.setIfInBounds_toArray, List.set_cons_zero, List.set_cons_succ]
  refine wpBut_one (i := 5) rfl (by kernel_rfl) (fun K HK => ?_)
  go_simp
  refine (qnum_o a2 M2 c2 ([] ++ enc (zz k)) c _ HM.out HO.out (by first | exact Nat.zero_le _ | (simp only [List.length_append, List.length_nil]; omega)) (by omega) (by omega)).mono ?_
  rintro r v3 ⟨a3, M3, c3, rfl, hM, hO, hb⟩
  have HSn := Hid.in (HS.out.step hb)
  have HMn := Hid.in hM
  have HOn := Hid.in hO.lie
  have HW3 := Hid.in (hO.lower (B' := w.heap.size) (by have := HS.out.be.size; omega))
  clear hb hM hO HM HO
  clear HW2
  refine HK.out _ _ (fun _ => HSn.out) ?_
  clear HK K HS
  have HS := HSn
  have HM := HMn
  have HO := HOn
  clear HSn HMn HOn
  try simp only [Act.put, List.setIfInBounds_toArray, List.set_cons_zero, List.set_cons_succ]
  refine wpBut_one (i := 8) rfl (by kernel_rfl) (fun K HK => ?_)
  go_simp
  refine (qnum_o a3 M3 c3 (([] ++ enc (zz k)) ++ enc (zz c)) l _ HM.out HO.out (by first | exact Nat.zero_le _ | (simp only [List.length_append, List.length_nil]; omega)) (by omega) (by omega)).mono ?_
  rintro r v4 ⟨a4, M4, c4, rfl, hM, hO, hb⟩
  have HSn := Hid.in (HS.out.step hb)
  have HMn := Hid.in hM
  have HOn := Hid.in hO.lie
  have HW4 := Hid.in (hO.lower (B' := w.heap.size) (by have := HS.out.be.size; omega))
  clear hb hM hO HM HO
  clear HW3
  refine HK.out _ _ (fun _ => HSn.out) ?_
  clear HK K HS
  have HS := HSn
  have HM := HMn
  have HO := HOn
  clear HSn HMn HOn
  try simp only [Act.put, List.setIfInBounds_toArray, List.set_cons_zero, List.set_cons_succ]
  refine wpBut_one (i := 9) rfl (by kernel_rfl) (fun K HK => ?_)
  go_simp
  refine HK.out _ _ (fun h => absurd rfl h) ?_
  clear HK K
  try simp only [Act.put, List.setIfInBounds_toArray, List.set_cons_zero, List.set_cons_succ]
  refine wpBut_done (by kernel_rfl) ?_ _
  have x0 : v4.cell? ⟨w.heap.size, 0, none⟩ = some (.int .i64 k) := blk_cell HS.out.bA rfl
  go_wp2
  go_ret
  exact ⟨_, _, _, rfl, HM.out, HW4.out, HS.out.be⟩

set_option maxRecDepth 20000 in
theorem qsPut_no (m : M13) (w : World) (h64 : M64 m) (hr : rtB m = false) : Calls Tryd.prog 14 #[.agg (mv m)] w fun r w' => ∃ ao N cap, r = .returned (.slice ao N cap) ∧ N = (putB m).length ∧ Own w' w.heap.size ao N cap (putB m) ∧ Below w.heap.size w w' := by
  have hrr := fun W => qsRight_any m W h64
  rw [hr] at hrr
  rw [putB_no m hr]
  obtain ⟨k, c, l, t, o, e, w_, v, d0, d1, d2, d3, h⟩ := m
  simp only [mv] at hrr ⊢
  have HRR := Hid.in hrr
  clear hrr h64 hr
  have HS0 : Hid (SMA w #[.int .i64 k, .int .i64 c, .int .i64 l, .int .i64 t, .int .i64 o, .int .i64 e, .int .i64 w_, .int .u32 v, .int .u32 d0, .int .u32 d1, .int .u32 d2, .int .u32 d3, .bool h] (w.alloc (.cells #[.int .i64 k, .int .i64 c, .int .i64 l, .int .i64 t, .int .i64 o, .int .i64 e, .int .i64 w_, .int .u32 v, .int .u32 d0, .int .u32 d1, .int .u32 d2, .int .u32 d3, .bool h] 28))) := Hid.in ⟨heap_alloc_new _ _, below_alloc _ _⟩
  have x0 : (w.alloc (.cells #[.int .i64 k, .int .i64 c, .int .i64 l, .int .i64 t, .int .i64 o, .int .i64 e, .int .i64 w_, .int .u32 v, .int .u32 d0, .int .u32 d1, .int .u32 d2, .int .u32 d3, .bool h] 28)).cell? ⟨w.heap.size, 0, none⟩ = some (.int .i64 k) := blk_cell HS0.out.bA rfl
  have x1 : (w.alloc (.cells #[.int .i64 k, .int .i64 c, .int .i64 l, .int .i64 t, .int .i64 o, .int .i64 e, .int .i64 w_, .int .u32 v, .int .u32 d0, .int .u32 d1, .int .u32 d2, .int .u32 d3, .bool h] 28)).cell? ⟨w.heap.size, 1, none⟩ = some (.int .i64 c) := blk_cell HS0.out.bA rfl
  have x2 : (w.alloc (.cells #[.int .i64 k, .int .i64 c, .int .i64 l, .int .i64 t, .int .i64 o, .int .i64 e, .int .i64 w_, .int .u32 v, .int .u32 d0, .int .u32 d1, .int .u32 d2, .int .u32 d3, .bool h] 28)).cell? ⟨w.heap.size, 2, none⟩ = some (.int .i64 l) := blk_cell HS0.out.bA rfl
  have x3 : (w.alloc (.cells #[.int .i64 k, .int .i64 c, .int .i64 l, .int .i64 t, .int .i64 o, .int .i64 e, .int .i64 w_, .int .u32 v, .int .u32 d0, .int .u32 d1, .int .u32 d2, .int .u32 d3, .bool h] 28)).cell? ⟨w.heap.size, 3, none⟩ = some (.int .i64 t) := blk_cell HS0.out.bA rfl
  have x4 : (w.alloc (.cells #[.int .i64 k, .int .i64 c, .int .i64 l, .int .i64 t, .int .i64 o, .int .i64 e, .int .i64 w_, .int .u32 v, .int .u32 d0, .int .u32 d1, .int .u32 d2, .int .u32 d3, .bool h] 28)).cell? ⟨w.heap.size, 4, none⟩ = some (.int .i64 o) := blk_cell HS0.out.bA rfl
  have x5 : (w.alloc (.cells #[.int .i64 k, .int .i64 c, .int .i64 l, .int .i64 t, .int .i64 o, .int .i64 e, .int .i64 w_, .int .u32 v, .int .u32 d0, .int .u32 d1, .int .u32 d2, .int .u32 d3, .bool h] 28)).cell? ⟨w.heap.size, 5, none⟩ = some (.int .i64 e) := blk_cell HS0.out.bA rfl
  have x6 : (w.alloc (.cells #[.int .i64 k, .int .i64 c, .int .i64 l, .int .i64 t, .int .i64 o, .int .i64 e, .int .i64 w_, .int .u32 v, .int .u32 d0, .int .u32 d1, .int .u32 d2, .int .u32 d3, .bool h] 28)).cell? ⟨w.heap.size, 6, none⟩ = some (.int .i64 w_) := blk_cell HS0.out.bA rfl
  have x7 : (w.alloc (.cells #[.int .i64 k, .int .i64 c, .int .i64 l, .int .i64 t, .int .i64 o, .int .i64 e, .int .i64 w_, .int .u32 v, .int .u32 d0, .int .u32 d1, .int .u32 d2, .int .u32 d3, .bool h] 28)).cell? ⟨w.heap.size, 7, none⟩ = some (.int .u32 v) := blk_cell HS0.out.bA rfl
  have x8 : (w.alloc (.cells #[.int .i64 k, .int .i64 c, .int .i64 l, .int .i64 t, .int .i64 o, .int .i64 e, .int .i64 w_, .int .u32 v, .int .u32 d0, .int .u32 d1, .int .u32 d2, .int .u32 d3, .bool h] 28)).cell? ⟨w.heap.size, 8, none⟩ = some (.int .u32 d0) := blk_cell HS0.out.bA rfl
  have x9 : (w.alloc (.cells #[.int .i64 k, .int .i64 c, .int .i64 l, .int .i64 t, .int .i64 o, .int .i64 e, .int .i64 w_, .int .u32 v, .int .u32 d0, .int .u32 d1, .int .u32 d2, .int .u32 d3, .bool h] 28)).cell? ⟨w.heap.size, 9, none⟩ = some (.int .u32 d1) := blk_cell HS0.out.bA rfl
  have x10 : (w.alloc (.cells #[.int .i64 k, .int .i64 c, .int .i64 l, .int .i64 t, .int .i64 o, .int .i64 e, .int .i64 w_, .int .u32 v, .int .u32 d0, .int .u32 d1, .int .u32 d2, .int .u32 d3, .bool h] 28)).cell? ⟨w.heap.size, 10, none⟩ = some (.int .u32 d2) := blk_cell HS0.out.bA rfl
  have x11 : (w.alloc (.cells #[.int .i64 k, .int .i64 c, .int .i64 l, .int .i64 t, .int .i64 o, .int .i64 e, .int .i64 w_, .int .u32 v, .int .u32 d0, .int .u32 d1, .int .u32 d2, .int .u32 d3, .bool h] 28)).cell? ⟨w.heap.size, 11, none⟩ = some (.int .u32 d3) := blk_cell HS0.out.bA rfl
  have x12 : (w.alloc (.cells #[.int .i64 k, .int .i64 c, .int .i64 l, .int .i64 t, .int .i64 o, .int .i64 e, .int .i64 w_, .int .u32 v, .int .u32 d0, .int .u32 d1, .int .u32 d2, .int .u32 d3, .bool h] 28)).cell? ⟨w.heap.size, 12, none⟩ = some (.bool h) := blk_cell HS0.out.bA rfl
  go_enter Tryd.func14, Tryd.ntmps14
  go_wp2_with fail
  refine (HRR.out _).mono ?_
  rintro r w1 ⟨rfl, hb⟩
  have HS := Hid.in (HS0.out.step hb)
  clear hb HS0 HRR
  clear x0 x1 x2 x3 x4 x5 x6 x7 x8 x9 x10 x11 x12
  go_wp2
  go_ret
  exact ⟨none, 0, 0, rfl, rfl, Own.nil _ _, HS.out.be⟩

theorem qsPut_any (m : M13) (w : World) (h32 : M32 m) (h64 : M64 m) : Calls Tryd.prog 14 #[.agg (mv m)] w fun r w' => ∃ ao N cap, r = .returned (.slice ao N cap) ∧ N = (putB m).length ∧ Own w' w.heap.size ao N cap (putB m) ∧ Below w.heap.size w w' := by
  rcases hx : rtB m with _ | _
  · exact qsPut_no m w h64 hx
  · have hr := (rtB_iff m).1 hx
    rw [putB_yes m hx]
    obtain ⟨k, c, l, t, o, e, w_, v, d0, d1, d2, d3, h⟩ := m
    simp only [mv]
    by_cases g3 : k = 3
    · subst g3; exact qsPut_U3 w c l t o e w_ v d0 d1 d2 d3 h h32 h64 hr
    by_cases g8 : k = 8
    · subst g8; exact qsPut_U8 w c l t o e w_ v d0 d1 d2 d3 h h32 h64 hr
    by_cases g14 : k = 14
    · subst g14; exact qsPut_U14 w c l t o e w_ v d0 d1 d2 d3 h h32 h64 hr
    by_cases g9 : k = 9
    · subst g9; exact qsPut_C w c l t o e w_ v d0 d1 d2 d3 h h32 h64 hr
    by_cases g5 : k = 5
    · subst g5; exact qsPut_S w c l t o e w_ v d0 d1 d2 d3 h h32 h64 hr
    by_cases g13 : k = 13
    · subst g13
      cases h
      · exact qsPut_D0 w c l t o e w_ v d0 d1 d2 d3 h32 h64 hr
      · exact qsPut_D1 w c l t o e w_ v d0 d1 d2 d3 h32 h64 hr
    by_cases g11 : k = 11
    · subst g11
      cases h
      · exact qsPut_A0 w c l t o e w_ v d0 d1 d2 d3 h32 h64 hr
      · exact qsPut_A1 w c l t o e w_ v d0 d1 d2 d3 h32 h64 hr
    exact qsPut_B w k c l t o e w_ v d0 d1 d2 d3 h g3 g8 g14 g9 g5 g13 g11 h32 h64 hr

end Go.Proofs.YtgepfbaojogccaaDoor

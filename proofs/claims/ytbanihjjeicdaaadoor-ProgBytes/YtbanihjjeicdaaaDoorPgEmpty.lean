/- DERIVED of the program: ProgEmpty returns true. Own work. -/
import Derived.Test.YtbanihjjeicdaaaDoorPgRuns
namespace Go.Proofs.YtbanihjjeicdaaaDoor
open Go.RowKit Go.Extern.Stop Go.Stop Go.Extern

theorem empty_bytes : encP [] = [0] := by
  have h0 : enc (zz 0) = [0] := enc_lt (by decide)
  simp [encP, encL_nil, h0]
theorem empty_len : (encP []).length = 1 := by rw [empty_bytes]; rfl

theorem OwnA.rowO {w : World} {B n cap : Nat} {ao : Option Addr} {L : List O4} (h : OwnO w B ao n cap L) : RowO w ao cap L := h.rows (ocs_one L)
theorem OwnA.olen {w : World} {B n cap : Nat} {ao : Option Addr} {L : List O4} (h : OwnO w B ao n cap L) : n = L.length := by
  have := h.len
  rw [List.length_map] at this
  exact this.symm

set_option maxHeartbeats 3200000 in
set_option maxRecDepth 20000 in
theorem progEmpty_any (w : World) (sa : Nat → Addr) (hE : Env10 w sa) (k a v o n : Int) (hx : O32 (k, a, v, o)) : Calls Tryd.prog 8 #[.agg #[.int .i64 k, .int .i64 a, .int .u32 v, .int .u32 o], .int .i64 n] w fun r w' => r = .returned (.bool true) ∧ Below w.heap.size w w' := by
  have HE := Hid.in hE
  have HX := Hid.in hx
  clear hE hx
  obtain ⟨m, hm⟩ : ∃ m, wI n 1 128 = m := ⟨_, rfl⟩
  have hm12 := wI_le n 1 128 (by decide)
  rw [hm] at hm12
  obtain ⟨hm1, hm2⟩ := hm12
  have HM := Hid.in hm
  clear hm
  go_enter Tryd.func8, Tryd.ntmps8
  go_wp2_with fail
  refine (within_i n 1 128 _ (by decide) (by decide) (by decide)).mono ?_
  rw [HM.out]
  rintro r w' ⟨rfl, rfl⟩
  go_wp2_with fail
  refine (put_ok none 0 0 [] m _ sa (HE.out.below (below_alloc _ _)) rfl (by decide) (Rows'.nil _ _) (by simp)).mono ?_
  rintro r w1 ⟨a1, M1, c1, rfl, hM1, hL1, hb1⟩
  obtain rfl : M1 = 1 := hM1.trans empty_len
  have HO1 : Hid (w1.heap[w.heap.size]? = some (.cells #[.int .i64 k, .int .i64 a, .int .u32 v, .int .u32 o] 29 (0, 0))) := Hid.in (blk_step (heap_alloc_new _ _) hb1)
  have HB1 := Hid.in (bstep (below_alloc w _) (Nat.le_refl _) hb1)
  have HL1 := Hid.in hL1
  clear hb1 hL1 hM1
  go_wp2_with fail
  refine (parse_ok a1 1 c1 [] m w1 sa (HE.out.below HB1.out) empty_len.symm HL1.out hm1 hm2 (by simp) (by decide)).mono ?_
  rintro r w2 ⟨a2, M2, c2, rfl, hM2, hO2, hb2⟩
  obtain rfl : M2 = 0 := hM2
  have HO2 := Hid.in (blk_step HO1.out hb2)
  have HB2 := Hid.in (bstep HB1.out (Nat.le_refl _) hb2)
  clear hb2 hO2 HO1 HB1 HL1
  have x0 : w2.cell? ⟨w.heap.size, 0, none⟩ = some (.int .i64 k) := blk_cell HO2.out rfl
  have x1 : w2.cell? ⟨w.heap.size, 1, none⟩ = some (.int .i64 a) := blk_cell HO2.out rfl
  have x2 : w2.cell? ⟨w.heap.size, 2, none⟩ = some (.int .u32 v) := blk_cell HO2.out rfl
  have x3 : w2.cell? ⟨w.heap.size, 3, none⟩ = some (.int .u32 o) := blk_cell HO2.out rfl
  go_wp2_with fail
  refine (right_any k a v o m w2).mono ?_
  by_cases hr : rt (k, a, v, o) m = true
  · rw [hr]
    have HR := Hid.in hr
    clear hr
    rintro r w3 ⟨rfl, hb3⟩
    have HO3 := Hid.in (blk_step HO2.out hb3)
    have HB3 := Hid.in (bstep HB2.out (Nat.le_refl _) hb3)
    clear hb3 HO2 HB2 x0 x1 x2 x3
    go_wp2
    go_loopw [10, 11] (fun l i wr => ∃ (j : Nat) (ao : Option Addr) (cap : Nat), j ≤ 64 ∧ i = .int .i64 (j : Int) ∧ l = .slice ao j cap ∧ OwnO wr w3.heap.size ao j cap (List.replicate j (k, a, v, o)) ∧ Below w3.heap.size w3 wr) (fun _ i _ => 64 - (intOf i).toNat)
    case atStart => exact ⟨0, none, 0, Nat.zero_le _, rfl, rfl, OwnA.nil _ _ _ _, Below.refl _ _⟩
    case round =>
      obtain ⟨j, ao, cap, hj, rfl, rfl, hO, hb⟩ := hrel
      have HO := Hid.in hO
      have HB := Hid.in hb
      clear hO hb
      have HOP := Hid.in (blk_step HO3.out HB.out)
      by_cases hlt : j < 64
      · have y0 : wr.cell? ⟨w.heap.size, 0, none⟩ = some (.int .i64 k) := blk_cell HOP.out rfl
        have y1 : wr.cell? ⟨w.heap.size, 1, none⟩ = some (.int .i64 a) := blk_cell HOP.out rfl
        have y2 : wr.cell? ⟨w.heap.size, 2, none⟩ = some (.int .u32 v) := blk_cell HOP.out rfl
        have y3 : wr.cell? ⟨w.heap.size, 3, none⟩ = some (.int .u32 o) := blk_cell HOP.out rfl
        have HO4 : Hid (OwnO (wr.alloc (.cells #[.int .i64 k, .int .i64 a, .int .u32 v, .int .u32 o] 29)) w3.heap.size ao j cap (List.replicate j (k, a, v, o))) := Hid.in (HO.out.step (below_alloc _ _))
        have HS4 : Hid (Rows' 4 (wr.alloc (.cells #[.int .i64 k, .int .i64 a, .int .u32 v, .int .u32 o] 29)) (some ⟨wr.heap.size, 0, none⟩) 1 [oc (k, a, v, o)]) := Hid.in (Rows'.lit 4 wr 29 (oc (k, a, v, o)) _ rfl rfl (oc_one _))
        have HBB : Hid (w3.heap.size ≤ (wr.alloc (.cells #[.int .i64 k, .int .i64 a, .int .u32 v, .int .u32 o] 29)).heap.size) := Hid.in (by have := HB.out.size; simp; omega)
        have hj1 : j + 1 ≤ 1000000 := by omega
        go_wp2_with (at_builtin; refine wpList_concatA rfl 30 29 4 24 _ (.tmp 76) (.tmp 78) rfl Tryd.underlying30 Tryd.infoOp rfl (by decide) (by decide) w3.heap.size ao (some ⟨wr.heap.size, 0, none⟩) j cap 1 1 ((List.replicate j (k, a, v, o)).map oc) [oc (k, a, v, o)] rfl HO4.out rfl rfl HS4.out HBB.out hj1 ?_; intro ao5 cap5 w5 HO5 HG5 _ _)
        go_roundw
        case rel =>
          refine ⟨j + 1, ao5, cap5, by omega, by go_num, rfl, ?_, ?_⟩
          · have h := HO5.out
            rw [show (List.replicate j (k, a, v, o)).map oc ++ [oc (k, a, v, o)] = (List.replicate (j + 1) (k, a, v, o)).map oc by simp [List.replicate_succ']] at h
            exact h
          · exact below_row (bstep HB.out (Nat.le_refl _) (below_alloc _ _)) HG5.out (by have := HB.out.size; simp; omega) (fun b hb => (HO.out.blk b hb).1)
        case measure => simp [intOf]; omega
      · obtain rfl : j = 64 := by omega
        obtain ⟨L, hL⟩ : ∃ L, List.replicate 64 (k, a, v, o) = L := ⟨_, rfl⟩
        rw [hL] at HO
        have HLL : Hid (L.length = 64) := Hid.in (by rw [← hL]; simp)
        have HLR : Hid (∀ x ∈ L, rt x m = true ∧ O32 x) := Hid.in (fun x hx => by rw [← hL] at hx; rw [List.eq_of_mem_replicate hx]; exact ⟨HR.out, HX.out⟩)
        clear hL hj hlt
        have HBW := Hid.in (bstep HB3.out (Nat.le_refl _) HB.out)
        go_wp2_with fail
        refine (put_ok ao 64 cap L m wr sa (HE.out.below HBW.out) HLL.out.symm (by decide) HO.out.rowO HLR.out).mono ?_
        rintro r w4 ⟨a4, M4, c4, rfl, hM4, hL4, hb4⟩
        have HM4 := Hid.in hM4
        have HL4 := Hid.in hL4
        have HB4 := Hid.in hb4
        clear hM4 hL4 hb4
        go_wp2_with fail
        refine (parse_ok a4 M4 c4 L m w4 sa (HE.out.below (bstep HBW.out (Nat.le_refl _) HB4.out)) HM4.out HL4.out hm1 hm2 HLR.out (by have := HLL.out; omega)).mono ?_
        rintro r w5 ⟨a5, M5, c5, rfl, hM5, hO5, hb5⟩
        obtain rfl : M5 = 64 := hM5.trans HLL.out
        have HO5 := Hid.in hO5
        have HB5 := Hid.in (bstep HB4.out (Nat.le_refl _) hb5)
        have HB54 := Hid.in hb5
        clear hM5 hO5 hb5 HM4 HL4
        have HOQ := Hid.in (blk_step HOP.out HB5.out)
        have y0 : w5.cell? ⟨w.heap.size, 0, none⟩ = some (.int .i64 k) := blk_cell HOQ.out rfl
        have y1 : w5.cell? ⟨w.heap.size, 1, none⟩ = some (.int .i64 a) := blk_cell HOQ.out rfl
        have y2 : w5.cell? ⟨w.heap.size, 2, none⟩ = some (.int .u32 v) := blk_cell HOQ.out rfl
        have y3 : w5.cell? ⟨w.heap.size, 3, none⟩ = some (.int .u32 o) := blk_cell HOQ.out rfl
        have HO6 : Hid (OwnO (w5.alloc (.cells #[.int .i64 k, .int .i64 a, .int .u32 v, .int .u32 o] 29)) w3.heap.size ao 64 cap L) := Hid.in ((HO.out.step HB5.out).step (below_alloc _ _))
        have HS6 : Hid (Rows' 4 (w5.alloc (.cells #[.int .i64 k, .int .i64 a, .int .u32 v, .int .u32 o] 29)) (some ⟨w5.heap.size, 0, none⟩) 1 [oc (k, a, v, o)]) := Hid.in (Rows'.lit 4 w5 29 (oc (k, a, v, o)) _ rfl rfl (oc_one _))
        have HBB : Hid (w3.heap.size ≤ (w5.alloc (.cells #[.int .i64 k, .int .i64 a, .int .u32 v, .int .u32 o] 29)).heap.size) := Hid.in (by have := HB.out.size; have := HB5.out.size; simp; omega)
        go_wp2_with (first
          | (at_builtin; refine wpList_concatA5 rfl 30 29 4 24 _ (.tmp 93) (.tmp 95) rfl Tryd.underlying30 Tryd.infoOp rfl (by decide) (by decide) w3.heap.size ao (some ⟨w5.heap.size, 0, none⟩) 64 cap 1 1 (L.map oc) [oc (k, a, v, o)] rfl HO6.out rfl rfl HS6.out HBB.out (by decide) ?_; intro ao7 cap7 w7 HO7 HG7 _ HK7 HN7)
          | fail)
        have HB7 : Hid (Below w3.heap.size w3 w7) := Hid.in (below_row (bstep (bstep HB.out (Nat.le_refl _) HB5.out) (Nat.le_refl _) (below_alloc _ _)) HG7.out HBB.out (fun b hb => (HO.out.blk b hb).1))
        have HBW7 := Hid.in (bstep HB3.out (Nat.le_refl _) HB7.out)
        have HROW : Hid (RowO w7 ao cap L) := Hid.in (by
          by_cases hc : 64 + 1 ≤ cap
          · obtain ⟨e1, e2⟩ := HK7.out hc
            have h := HO7.out
            rw [e1, e2] at h
            have h2 := (h.take 64 (by omega)).rows (fun r hr => by
              rw [show (L.map oc ++ [oc (k, a, v, o)]).take 64 = L.map oc by rw [List.take_append_of_le_length (by rw [List.length_map]; exact Nat.le_of_eq HLL.out.symm), List.take_of_length_le (by rw [List.length_map]; exact Nat.le_of_eq HLL.out)]] at hr
              exact ocs_one L r hr)
            rwa [show (L.map oc ++ [oc (k, a, v, o)]).take 64 = L.map oc by rw [List.take_append_of_le_length (by rw [List.length_map]; exact Nat.le_of_eq HLL.out.symm), List.take_of_length_le (by rw [List.length_map]; exact Nat.le_of_eq HLL.out)]] at h2
          · exact (HO6.out.step (HN7.out (by omega))).rowO)
        have HM7 : Hid (RowO w7 a5 c5 L) := Hid.in ((HO5.out.step (below_alloc _ _)).kept HG7.out (fun b hb e => by
          have h1 := (HO5.out.blk b hb).1
          obtain ⟨_, cur, h2⟩ := HO.out.blk b e.symm
          have h3 := blk_lt h2
          have h4 := HB4.out.size
          omega)).rowO
        clear HO6 HS6 HBB HO7 HG7 HK7 HN7 y0 y1 y2 y3 HOQ HOP
        go_wp2_with fail
        refine (put_long ao7 65 cap7 m w7 sa (HE.out.below HBW7.out) (by decide)).mono ?_
        rintro r w7 ⟨rfl, rfl⟩
        go_wp2_with fail
        refine (sameO_any a5 ao 64 c5 cap L w7 HLL.out.symm HM7.out HROW.out (by decide)).mono ?_
        rintro r w8 ⟨rfl, hb8⟩
        have HB8 := Hid.in (bstep HBW7.out (Nat.le_refl _) hb8)
        clear hb8
        go_wp2_with fail
        refine (kIs_flt opGPut 65 [] 2 (by omega) (by omega) w8 sa (HE.out.below HB8.out)).mono ?_
        rintro r w9 ⟨rfl, hb9⟩
        have HB9 := Hid.in (bstep HB8.out (Nat.le_refl _) hb9)
        clear hb9
        go_wp2_with fail
        refine (progRuns_any w9 sa (HE.out.below HB9.out)).mono ?_
        rintro r w10 ⟨rfl, hb10⟩
        have HB10 := Hid.in (bstep HB9.out (Nat.le_refl _) hb10)
        clear hb10
        go_wp2
        go_ret
        exact ⟨rfl, HB10.out⟩
  · have hrf : rt (k, a, v, o) m = false := by simpa using hr
    rw [hrf]
    clear hr hrf
    rintro r w3 ⟨rfl, hb3⟩
    have HB3 := Hid.in (bstep HB2.out (Nat.le_refl _) hb3)
    clear hb3 x0 x1 x2 x3
    go_wp2_with fail
    refine (progRuns_any w3 sa (HE.out.below HB3.out)).mono ?_
    rintro r w4 ⟨rfl, hb4⟩
    have HB4 := Hid.in (bstep HB3.out (Nat.le_refl _) hb4)
    clear hb4
    go_wp2
    go_ret
    exact ⟨rfl, HB4.out⟩

end Go.Proofs.YtbanihjjeicdaaaDoor

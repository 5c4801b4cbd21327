/- DERIVED of the program: assentbook.Roomy and Intact of operations. Own work. -/
import Derived.Test.YtbanihjjeicdaaaDoorPgEmpty
import Derived.Test.YtbanihjjeicdaaaDoorGenF
namespace Go.Proofs.YtbanihjjeicdaaaDoor
open Go.RowKit Go.Extern.Stop Go.Stop Go.Extern

theorem oc_zero : (#[.int .i64 0, .int .i64 0, .int .u32 0, .int .u32 0] : Array Value).toList = oc (0, 0, 0, 0) := rfl

theorem set_mark (L : List O4) (x z : O4) (k : Nat) (hk : k < 80) : (L ++ (List.replicate k x ++ List.replicate (80 - k) z)).set (L.length + k) x = L ++ (List.replicate (k + 1) x ++ List.replicate (80 - (k + 1)) z) := by
  rw [List.set_append_right _ _ (by omega), show 80 - k = (80 - (k + 1)) + 1 from by omega, List.replicate_succ, List.set_append_right _ _ (by simp)]
  simp [List.replicate_succ']

/-- 's[:j]' of operations. -/
theorem slice_toO (ao : Option Addr) (N cap j : Nat) (hj : j ≤ cap) (w : World) : (Instr.sliceAt 30 (.slice ao N cap) none (some (.int .i64 (j : Int))) none).run Tryd.prog w = .ok (.slice ao j cap) w := by
  obtain ⟨i0, hi, hz0, hz1, hz2⟩ := info_parts Tryd.infoOp
  have hj2 : (0 : Int) ≤ (j : Int) ∧ (j : Int) ≤ (cap : Int) := by omega
  have hn : ¬ cap < j := by omega
  have hm : ao.map (fun x => x.add 0) = ao := by cases ao <;> simp [Addr.add]
  simp [Instr.sliceAt, Instr.slice, Instr.sliceBounds, Instr.sliceBound, asIntOf, Sem.run_bind, run_underlying Tryd.underlying30, hj2, hn, sizeOf, typeInfo, hi, hm]

set_option maxHeartbeats 1600000 in
set_option maxRecDepth 20000 in
theorem roomyO_any (ao : Option Addr) (N cap : Nat) (L : List O4) (k a v d : Int) (w : World) (hN : N = L.length) (hN80 : N ≤ 80) (hL : RowO w ao cap L) :
    Calls Tryd.prog 15 #[.slice ao N cap, .agg #[.int .i64 k, .int .i64 a, .int .u32 v, .int .u32 d]] w fun r w' => ∃ g, r = .returned (.slice (some ⟨g, 0, none⟩) (N + 80) (N + 80)) ∧ OwnO w' w.heap.size (some ⟨g, 0, none⟩) (N + 80) (N + 80) (L ++ List.replicate 80 (k, a, v, d)) ∧ Below w.heap.size w w' := by
  have HL := Hid.in hL
  have HN := Hid.in hN
  clear hL hN
  obtain ⟨M, hM⟩ : ∃ M, M = N + 80 := ⟨_, rfl⟩
  have hMi : (N : Int) + 80 = (M : Int) := by omega
  have hMw : IntKind.i64.wrap ((N : Int) + 80) = (M : Int) := by rw [IntKind.wrap_i64]; omega
  have hM2 : M ≤ 1000000 := by omega
  have HM := Hid.in hM
  clear hM
  go_enter Tryd.func15, Tryd.ntmps15
  have HW0 : Hid (w.heap.size ≤ (w.alloc (.cells #[.int .i64 k, .int .i64 a, .int .u32 v, .int .u32 d] 29)).heap.size) := Hid.in (by simp)
  go_upto_region 2 with (at_make; refine wpList_make_rows rfl (.tmp 9) 30 29 rfl 4 24 #[.int .i64 0, .int .i64 0, .int .u32 0, .int .u32 0] Tryd.underlying30 Tryd.infoOp rfl (by decide) (by decide) (M : Int) M w.heap.size rfl rfl hM2 HW0.out ?_; intro w1 HO1 HB1)
  have eg : (w.alloc (.cells #[.int .i64 k, .int .i64 a, .int .u32 v, .int .u32 d] 29)).heap.size = w.heap.size + 1 := by simp
  obtain ⟨g, hg⟩ : ∃ g, w.heap.size + 1 = g := ⟨_, rfl⟩
  have HBW1 : Hid (Below w.heap.size w w1) := Hid.in (bstep (below_alloc _ _) (Nat.le_refl _) HB1.out)
  have HMK1 : Hid (w1.heap[w.heap.size]? = some (.cells #[.int .i64 k, .int .i64 a, .int .u32 v, .int .u32 d] 29 (0, 0))) := Hid.in (blk_step (heap_alloc_new _ _) HB1.out)
  rw [eg] at HO1
  rw [hg] at HO1 ⊢
  have HG := Hid.in hg
  clear hg eg HB1 HW0
  have HL1 : Hid (RowO w1 ao cap L) := Hid.in (HL.out.step HBW1.out)
  have hNM : N ≤ M := by omega
  have HNL : Hid (N = (L.map oc).length) := Hid.in (by rw [List.length_map]; exact HN.out)
  go_upto_region 3 with (first | (refine wpList_copy_rows rfl (.tmp 11) (.tmp 12) 30 29 rfl 4 24 _ Tryd.underlying30 Tryd.infoOp (by decide) w.heap.size g 0 M M ao N cap (List.replicate M (oc (0, 0, 0, 0))) (L.map oc) rfl rfl HO1.out HNL.out HL1.out hNM ?_; intro w2 HO2 HG2) | fail)
  have HO3 : Hid (OwnO w2 w.heap.size (some ⟨g, 0, none⟩) M M (L ++ List.replicate 80 (0, 0, 0, 0))) := Hid.in (by
    have h := HO2.out
    rwa [show L.map oc ++ (List.replicate M (oc (0, 0, 0, 0))).drop N = (L ++ List.replicate 80 ((0, 0, 0, 0) : O4)).map oc by
      rw [List.map_append, List.drop_replicate, List.map_replicate, show M - N = 80 by have := HM.out; omega]] at h)
  have HB2 : Hid (Below w.heap.size w w2) := Hid.in (below_row HBW1.out HG2.out HBW1.out.size (fun b hb => by cases hb; have := HG.out; omega))
  have HMK2 : Hid (w2.heap[w.heap.size]? = some (.cells #[.int .i64 k, .int .i64 a, .int .u32 v, .int .u32 d] 29 (0, 0))) := Hid.in ((HG2.out.block _ (blk_lt HMK1.out) (by intro e; cases e; have := HG.out; omega)).trans HMK1.out)
  clear HO1 HO2 HG2 HMK1 HL1 HNL HBW1
  go_wp2
  go_loopw [6] (fun i wr => ∃ (j : Nat), N ≤ j ∧ j ≤ M ∧ i = .int .i64 (j : Int) ∧ OwnO wr w.heap.size (some ⟨g, 0, none⟩) M M (L ++ (List.replicate (j - N) (k, a, v, d) ++ List.replicate (80 - (j - N)) (0, 0, 0, 0))) ∧ wr.heap[w.heap.size]? = some (.cells #[.int .i64 k, .int .i64 a, .int .u32 v, .int .u32 d] 29 (0, 0)) ∧ Below w.heap.size w wr) (fun i _ => M - (intOf i).toNat)
  case atStart => exact ⟨N, Nat.le_refl _, hNM, rfl, by rw [Nat.sub_self]; exact HO3.out, HMK2.out, HB2.out⟩
  case round =>
    obtain ⟨j, hj1, hj2, rfl, hO, hK, hb⟩ := hrel
    have HO := Hid.in hO
    have HK := Hid.in hK
    have HB := Hid.in hb
    clear hO hK hb
    by_cases hlt : j < M
    · have y0 : wr.cell? ⟨w.heap.size, 0, none⟩ = some (.int .i64 k) := blk_cell HK.out rfl
      have y1 : wr.cell? ⟨w.heap.size, 1, none⟩ = some (.int .i64 a) := blk_cell HK.out rfl
      have y2 : wr.cell? ⟨w.heap.size, 2, none⟩ = some (.int .u32 v) := blk_cell HK.out rfl
      have y3 : wr.cell? ⟨w.heap.size, 3, none⟩ = some (.int .u32 d) := blk_cell HK.out rfl
      obtain ⟨b, o, z0, z1, z2, z3, e, q0, q1, q2, q3, _⟩ := HO.out.rowO.oat j (by have h := HO.out.olen; omega)
      cases e
      obtain ⟨_, cur, hcur⟩ := HO.out.blk g rfl
      simp only [Nat.zero_add] at q0 q1 q2 q3
      have f0 : wr.frozen? ⟨g, j * 4, none⟩ = false := blk_free hcur
      have f1 : wr.frozen? ⟨g, j * 4 + 1, none⟩ = false := blk_free hcur
      have f2 : wr.frozen? ⟨g, j * 4 + 2, none⟩ = false := blk_free hcur
      have f3 : wr.frozen? ⟨g, j * 4 + 3, none⟩ = false := blk_free hcur
      have HP := Hid.in (HO.out.put (by decide) j hlt (oc (k, a, v, d)) rfl)
      have i1 : (j : Int) < (M : Int) := by omega
      go_wp2
      go_roundw
      case rel =>
        have hne : w.heap.size ≠ g := by have := HG.out; omega
        have hle : w.heap.size ≤ g := by have := HG.out; omega
        refine ⟨j + 1, by omega, by omega, by go_num, ?_, ?_, ?_⟩
        · have h := HP.out
          have hs := set_mark L (k, a, v, d) (0, 0, 0, 0) (j - N) (by have := HM.out; omega)
          rw [show L.length + (j - N) = j by have := HN.out; omega, show j - N + 1 = j + 1 - N by omega] at hs
          rw [Nat.zero_add, ← List.map_set, hs] at h
          exact h
        · exact (Below.heap_setCell _ _ _ _ hne).trans ((Below.heap_setCell _ _ _ _ hne).trans ((Below.heap_setCell _ _ _ _ hne).trans ((Below.heap_setCell _ _ _ _ hne).trans HK.out)))
        · exact (((HB.out.setCell (p := ⟨g, j * 4, none⟩) hle _).setCell (p := ⟨g, j * 4 + 1, none⟩) hle _).setCell (p := ⟨g, j * 4 + 2, none⟩) hle _).setCell (p := ⟨g, j * 4 + 3, none⟩) hle _
      case measure => simp [intOf]; omega
    · obtain rfl : j = M := by omega
      go_wp2
      go_ret
      have e80 : j - N = 80 := by have := HM.out; omega
      refine ⟨g, by rw [HM.out]; rfl, ?_, HB.out⟩
      have h := HO.out
      rw [e80] at h
      rw [← HM.out]
      simpa using h

theorem marks_at (L : List O4) (x : O4) (j : Nat) (h1 : L.length ≤ j) (h2 : j < L.length + 80) : (L ++ List.replicate 80 x)[j]? = some x := by
  rw [List.getElem?_append_right h1, List.getElem?_replicate, if_pos (by omega)]

set_option maxHeartbeats 1600000 in
set_option maxRecDepth 20000 in
theorem intactO_any (ao : Option Addr) (g N cap : Nat) (L : List O4) (k a v d : Int) (B : Nat) (w : World) (hO : OwnO w B (some ⟨g, 0, none⟩) (N + 80) (N + 80) (L ++ List.replicate 80 (k, a, v, d))) (hN : N = L.length) (hN80 : N ≤ 80) (hL : RowO w ao cap L) :
    Calls Tryd.prog 18 #[.slice (some ⟨g, 0, none⟩) (N + 80) (N + 80), .slice ao N cap, .agg #[.int .i64 k, .int .i64 a, .int .u32 v, .int .u32 d]] w fun r w' => r = .returned (.bool true) ∧ Below w.heap.size w w' := by
  have HL := Hid.in hL
  have HN := Hid.in hN
  have HO := Hid.in hO
  clear hL hN hO
  have hsl := slice_toO (some ⟨g, 0, none⟩) (N + 80) (N + 80) N (by omega)
  have HT : Hid (∀ w', Below w.heap.size w w' → RowO w' (some ⟨g, 0, none⟩) (N + 80) L) := Hid.in (fun w' hb => by
    have h := ((HO.out.step hb).take N (by omega))
    rw [← List.map_take, List.take_append_of_le_length (by have := HN.out; omega), List.take_of_length_le (by have := HN.out; omega)] at h
    exact h.rowO)
  go_enter Tryd.func18, Tryd.ntmps18
  go_wp2_with fail
  refine (sameO_any (some ⟨g, 0, none⟩) ao N (N + 80) cap L _ HN.out (HT.out _ (below_alloc _ _)) (HL.out.step (below_alloc _ _)) (by omega)).mono ?_
  rintro r w1 ⟨rfl, hb1⟩
  have HB1 := Hid.in (bstep (below_alloc w _) (Nat.le_refl _) hb1)
  have HMK : Hid (w1.heap[w.heap.size]? = some (.cells #[.int .i64 k, .int .i64 a, .int .u32 v, .int .u32 d] 29 (0, 0))) := Hid.in (blk_step (heap_alloc_new _ _) hb1)
  clear hb1 HT hsl
  go_wp2
  go_loopw [7] (fun i wr => ∃ (j : Nat), N ≤ j ∧ j ≤ N + 80 ∧ i = .int .i64 (j : Int) ∧ Below w1.heap.size w1 wr) (fun i _ => N + 80 - (intOf i).toNat)
  case atStart => exact ⟨N, Nat.le_refl _, by omega, rfl, Below.refl _ _⟩
  case round =>
    obtain ⟨j, hj1, hj2, rfl, hb⟩ := hrel
    have HB := Hid.in hb
    clear hb
    by_cases hlt : j < N + 80
    · have HK := Hid.in (blk_step HMK.out HB.out)
      have y0 : wr.cell? ⟨w.heap.size, 0, none⟩ = some (.int .i64 k) := blk_cell HK.out rfl
      have y1 : wr.cell? ⟨w.heap.size, 1, none⟩ = some (.int .i64 a) := blk_cell HK.out rfl
      have y2 : wr.cell? ⟨w.heap.size, 2, none⟩ = some (.int .u32 v) := blk_cell HK.out rfl
      have y3 : wr.cell? ⟨w.heap.size, 3, none⟩ = some (.int .u32 d) := blk_cell HK.out rfl
      obtain ⟨b, o, z0, z1, z2, z3, e, q0, q1, q2, q3, hz⟩ := ((HO.out.step HB1.out).step HB.out).rowO.oat j (by have h := HO.out.olen; omega)
      cases e
      rw [marks_at _ _ _ (by have := HN.out; omega) (by have := HN.out; omega)] at hz
      cases hz
      simp only [Nat.zero_add] at q0 q1 q2 q3
      have hne := ne_op k a v d
      have i1 : (j : Int) < ((N + 80 : Nat) : Int) := by omega
      go_wp2
      go_quiet (fail)
      go_wp2
      go_roundw
      case rel => exact ⟨j + 1, by omega, by omega, by go_num, drewN_below HB.out _⟩
      case measure => simp [intOf]; omega
    · go_wp2
      go_ret
      exact ⟨rfl, bstep HB1.out (Nat.le_refl _) HB.out⟩

end Go.Proofs.YtbanihjjeicdaaaDoor

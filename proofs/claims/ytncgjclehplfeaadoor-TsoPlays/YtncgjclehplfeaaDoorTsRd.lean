/- DERIVED of the program: Step of the document's own model, a kind of event. Own work. -/
import Derived.Test.YtncgjclehplfeaaDoorTsR2
namespace Go.Proofs.YtncgjclehplfeaaDoor
open Go.RowKit Go.Extern.Stop Go.Stop Go.Extern

set_option maxHeartbeats 6400000 in
set_option maxRecDepth 20000 in
theorem rstep_4 (w : World) (q N : Nat) (S : List Nat) (A : List (List (Int × Int))) (M : List Int) (hT : RM w q S N A M) (m : Nat) (hm : m < A.length) (x : Nat) (hx : x < M.length) (v n : Int) (d : Bool) (r0 : Nat) (h : refL (A.getD m []) M ⟨4, m, x, v, n, d⟩ = r0) :
    Calls Tryd.prog 19 #[.pointer (some ⟨q, 0, none⟩), evv 4 (m : Int) (x : Int) v n d] w fun r w' => r = .returned (.int .i64 (r0 : Int)) ∧ ∃ S', RTurned w w' q S S' (N + 1) (if r0 = 0 then doA A ⟨4, m, x, v, n, d⟩ else A) (if r0 = 0 then doM M ⟨4, m, x, v, n, d⟩ else M) := by
  have HT := Hid.in hT
  have HM := Hid.in hm
  have hbx := below_alloc w (.cells #[.int .i64 4, .int .i64 (m : Int), .int .i64 (x : Int), .int .u32 v, .int .u32 n, .bool d] 24)
  obtain ⟨bb, o, capb, ao, cap, k0, k1, kf, hO, hbb, hrow⟩ := (hT.step hbx).row hm
  have HO := Hid.in hO
  have HROW := Hid.in hrow
  have HBB := Hid.in hbb
  have HX := Hid.in hx
  obtain ⟨mb, mo, capm, k2, k3, kg, _⟩ := (hT.step hbx).mset hx
  obtain ⟨L, hL⟩ : ∃ L, A.getD m [] = L := ⟨_, rfl⟩
  rw [hL] at k1 HO h
  obtain ⟨nL, hnL⟩ : ∃ n, L.length = n := ⟨_, rfl⟩
  rw [hnL] at k1 HO
  obtain ⟨nA, hnA⟩ : ∃ n, A.length = n := ⟨_, rfl⟩
  rw [hnA] at k0 hm
  obtain ⟨nM, hnM⟩ : ∃ n, M.length = n := ⟨_, rfl⟩
  rw [hnM] at k2 hx
  obtain ⟨z, hz⟩ : ∃ z, M.getD x 0 = z := ⟨_, rfl⟩
  rw [hz] at k3
  have HZ := Hid.in hz
  have HNM := Hid.in hnM
  have i2 : (x : Int) < (nM : Int) := by omega
  have HL := Hid.in hL
  have HNL := Hid.in hnL
  have HH := Hid.in h
  have i1 : (m : Int) < (nA : Int) := by omega
  clear hT hL hnL hnA h hO hrow hbb hbx hnM hz hx
  go_enter Tryd.func19, Tryd.ntmps19
  go_upto_region 1 with fail
  generalize hwx : w.alloc _ = wx at k0 k1 kf HO HROW k2 k3 kg
  have HB : Hid (Below w.heap.size w wx) := Hid.in (by rw [← hwx]; exact below_alloc _ _)
  have e0 : wx.cell? ⟨w.heap.size, 0, none⟩ = some (.int .i64 4) := by rw [← hwx]; exact blk_cell (heap_alloc_new _ _) rfl
  have e1 : wx.cell? ⟨w.heap.size, 1, none⟩ = some (.int .i64 (m : Int)) := by rw [← hwx]; exact blk_cell (heap_alloc_new _ _) rfl
  have e2 : wx.cell? ⟨w.heap.size, 2, none⟩ = some (.int .i64 (x : Int)) := by rw [← hwx]; exact blk_cell (heap_alloc_new _ _) rfl
  have e3 : wx.cell? ⟨w.heap.size, 3, none⟩ = some (.int .u32 v) := by rw [← hwx]; exact blk_cell (heap_alloc_new _ _) rfl
  have e4 : wx.cell? ⟨w.heap.size, 4, none⟩ = some (.int .u32 n) := by rw [← hwx]; exact blk_cell (heap_alloc_new _ _) rfl
  have e5 : wx.cell? ⟨w.heap.size, 5, none⟩ = some (.bool d) := by rw [← hwx]; exact blk_cell (heap_alloc_new _ _) rfl
  have hws : w.heap.size < wx.heap.size := lt_cell e0
  clear hwx
  go_quiet (fail)
  go_wp2
  go_quiet (fail)
  go_wp2
  go_quiet (fail)
  generalize hwy : ((wx.drewN _).drewN _).drewN _ = wy
  have HBY : Hid (Below wx.heap.size wx wy) := Hid.in (by rw [← hwy]; exact drewN_below (drewN_below (drewN_below (Below.refl _ _) _) _) _)
  have E0 : wy.cell? ⟨w.heap.size, 0, none⟩ = some (.int .i64 4) := by rw [← hwy]; exact e0
  have E1 : wy.cell? ⟨w.heap.size, 1, none⟩ = some (.int .i64 (m : Int)) := by rw [← hwy]; exact e1
  have E2 : wy.cell? ⟨w.heap.size, 2, none⟩ = some (.int .i64 (x : Int)) := by rw [← hwy]; exact e2
  have E3 : wy.cell? ⟨w.heap.size, 3, none⟩ = some (.int .u32 v) := by rw [← hwy]; exact e3
  have E4 : wy.cell? ⟨w.heap.size, 4, none⟩ = some (.int .u32 n) := by rw [← hwy]; exact e4
  have E5 : wy.cell? ⟨w.heap.size, 5, none⟩ = some (.bool d) := by rw [← hwy]; exact e5
  have K0 : wy.cell? ⟨q, 0, none⟩ = some (.slice (some ⟨bb, o, none⟩) nA capb) := by rw [← hwy]; exact k0
  have K1 : wy.cell? ⟨bb, o + m, none⟩ = some (.slice ao nL cap) := by rw [← hwy]; exact k1
  have KF : wy.frozen? ⟨bb, o + m, none⟩ = false := by rw [← hwy]; exact kf
  have K2 : wy.cell? ⟨q, 1, none⟩ = some (.slice (some ⟨mb, mo, none⟩) nM capm) := by rw [← hwy]; exact k2
  have K3 : wy.cell? ⟨mb, mo + x, none⟩ = some (.int .u32 z) := by rw [← hwy]; exact k3
  have KG : wy.frozen? ⟨mb, mo + x, none⟩ = false := by rw [← hwy]; exact kg
  have HE2 := Hid.in e2
  have HE3 := Hid.in e3
  clear hwy e0 e1 e2 e3 e4 e5 k0 k1 kf k2 k3 kg
  by_cases hL0 : L = []
  · obtain rfl : nL = 0 := by rw [← HNL.out, hL0]; rfl
    have hrd : rdL L M x = z := by rw [hL0, rdL_nil]; exact HZ.out
    have HRD := Hid.in hrd
    have HL0 := Hid.in hL0
    clear hL0 hrd
    by_cases hzv : z = v
    · have h := HH.out
      simp only [refL, show ¬ ((4 : Int) = 1) by decide, show ¬ ((4 : Int) = 3) by decide, if_false, if_true, Int.toNat_natCast] at h
      rw [if_neg (fun hn => hn HL0.out), if_pos (HRD.out.trans hzv)] at h
      subst h
      subst hzv
      cases d with
      | false =>
        go_wp2
        go_quiet (fail)
        go_wp2
        go_ret
        exact ⟨rfl, S, by simpa [doA, doM] using (RTurned.same HT.out (drewN_below (bstep HB.out (Nat.le_refl _) HBY.out) _)).mono (Nat.le_succ _)⟩
      | true =>
        obtain ⟨mb', mo', capm', j0, _, _, hset⟩ := (HT.out.step (bstep HB.out (Nat.le_refl _) HBY.out)).mset HX.out
        have hmm : mb' = mb ∧ mo' = mo := by
          have e := (Value.slice.inj (Option.some.inj (K2.symm.trans j0))).1
          cases e
          exact ⟨rfl, rfl⟩
        rw [hmm.1, hmm.2] at hset
        have HSET := Hid.in (hset n)
        clear hset hmm j0
        go_upto_region 22 with fail
        go_quiet (fail)
        go_upto_region 25 with fail
        refine wp_region_but (fun W => cellIs q 1 (.slice (some ⟨mb, mo, none⟩) nM capm) W ∧ cellIs w.heap.size 2 (.int .i64 (x : Int)) W ∧ cellIs w.heap.size 4 (.int .u32 n) W) 9 (by kernel_rfl) ?_
        have HS : Hid (cellIs q 1 (.slice (some ⟨mb, mo, none⟩) nM capm) (wy.drewN nq).drew ∧ cellIs w.heap.size 2 (.int .i64 (x : Int)) (wy.drewN nq).drew ∧ cellIs w.heap.size 4 (.int .u32 n) (wy.drewN nq).drew) := Hid.in ⟨K2, E2, E4⟩
        refine wpBut_take (i := 0) (v := ?_) rfl (by kernel_rfl) (by kernel_rfl) (by exact fun _ _ _ h => h) HS.out (Or.inl ⟨by rfl, ?_⟩) ?_
        case refine_2 => (intro w hSw; obtain ⟨s1, s2, s3⟩ := hSw; simp only [cellIs] at s1 s2 s3; go_simp; try with_reducible rfl)
        simp only [Act.put, List.setIfInBounds_toArray, List.set_cons_zero, List.set_cons_succ]
        refine wpBut_take (i := 1) (v := ?_) rfl (by kernel_rfl) (by kernel_rfl) (by exact fun _ _ _ h => h) HS.out (Or.inl ⟨by rfl, ?_⟩) ?_
        case refine_2 => (intro w hSw; obtain ⟨s1, s2, s3⟩ := hSw; simp only [cellIs] at s1 s2 s3; go_simp; try with_reducible rfl)
        simp only [Act.put, List.setIfInBounds_toArray, List.set_cons_zero, List.set_cons_succ]
        refine wpBut_take (i := 2) (v := ?_) rfl (by kernel_rfl) (by kernel_rfl) (by exact fun _ _ _ h => h) HS.out (Or.inl ⟨by rfl, ?_⟩) ?_
        case refine_2 => (intro w hSw; obtain ⟨s1, s2, s3⟩ := hSw; simp only [cellIs] at s1 s2 s3; go_simp; try with_reducible rfl)
        simp only [Act.put, List.setIfInBounds_toArray, List.set_cons_zero, List.set_cons_succ]
        refine wpBut_take (i := 3) (v := ?_) rfl (by kernel_rfl) (by kernel_rfl) (by exact fun _ _ _ h => h) HS.out (Or.inl ⟨by rfl, ?_⟩) ?_
        case refine_2 => (intro w hSw; obtain ⟨s1, s2, s3⟩ := hSw; simp only [cellIs] at s1 s2 s3; go_simp; try with_reducible rfl)
        simp only [Act.put, List.setIfInBounds_toArray, List.set_cons_zero, List.set_cons_succ]
        refine wpBut_take (i := 4) (v := ?_) rfl (by kernel_rfl) (by kernel_rfl) (by exact fun _ _ _ h => h) HS.out (Or.inl ⟨by rfl, ?_⟩) ?_
        case refine_2 => (intro w hSw; obtain ⟨s1, s2, s3⟩ := hSw; simp only [cellIs] at s1 s2 s3; go_simp; try with_reducible rfl)
        simp only [Act.put, List.setIfInBounds_toArray, List.set_cons_zero, List.set_cons_succ]
        refine wpBut_take (i := 5) (v := ?_) rfl (by kernel_rfl) (by kernel_rfl) (by exact fun _ _ _ h => h) HS.out (Or.inl ⟨by rfl, ?_⟩) ?_
        case refine_2 => (intro w hSw; obtain ⟨s1, s2, s3⟩ := hSw; simp only [cellIs] at s1 s2 s3; go_simp; try with_reducible rfl)
        simp only [Act.put, List.setIfInBounds_toArray, List.set_cons_zero, List.set_cons_succ]
        refine wpBut_take (i := 6) (v := ?_) rfl (by kernel_rfl) (by kernel_rfl) (by exact fun _ _ _ h => h) HS.out (Or.inl ⟨by rfl, ?_⟩) ?_
        case refine_2 => (intro w hSw; obtain ⟨s1, s2, s3⟩ := hSw; simp only [cellIs] at s1 s2 s3; go_simp; try with_reducible rfl)
        simp only [Act.put, List.setIfInBounds_toArray, List.set_cons_zero, List.set_cons_succ]
        refine wpBut_take (i := 7) (v := ?_) rfl (by kernel_rfl) (by kernel_rfl) (by exact fun _ _ _ h => h) HS.out (Or.inl ⟨by rfl, ?_⟩) ?_
        case refine_2 => (intro w hSw; obtain ⟨s1, s2, s3⟩ := hSw; simp only [cellIs] at s1 s2 s3; go_simp; try with_reducible rfl)
        simp only [Act.put, List.setIfInBounds_toArray, List.set_cons_zero, List.set_cons_succ]
        refine wpBut_take (i := 8) (v := ?_) rfl (by kernel_rfl) (by kernel_rfl) (by exact fun _ _ _ h => h) HS.out (Or.inl ⟨by rfl, ?_⟩) ?_
        case refine_2 => (intro w hSw; obtain ⟨s1, s2, s3⟩ := hSw; simp only [cellIs] at s1 s2 s3; go_simp; try with_reducible rfl)
        simp only [Act.put, List.setIfInBounds_toArray, List.set_cons_zero, List.set_cons_succ]
        refine wpBut_one (i := 9) rfl (by kernel_rfl) (fun K HK => ?_)
        go_simp
        refine HK.out _ _ (fun h => absurd rfl h) ?_
        clear HK K HS
        refine wpBut_done (by kernel_rfl) ?_ _
        have HFIN : Hid (RTurned w ((wy.setCell ⟨mb, mo + x, none⟩ (.int .u32 n)).drewN (nq + 1)) q S S (N + 1) A (M.set x n)) := Hid.in (((((RTurned.same HT.out (bstep HB.out (Nat.le_refl _) HBY.out)).trans HSET.out)).then (drewN_below (Below.refl _ _) _)).mono (Nat.le_succ _))
        go_wp2
        go_ret
        refine ⟨rfl, S, ?_⟩
        simp [doA, doM]
        exact HFIN.out
    · have h := HH.out
      simp only [refL, show ¬ ((4 : Int) = 1) by decide, show ¬ ((4 : Int) = 3) by decide, if_false, if_true, Int.toNat_natCast] at h
      rw [if_neg (fun hn => hn HL0.out), if_neg (fun e => hzv (HRD.out.symm.trans e))] at h
      subst h
      have hz0 : (z != v) = true := by simpa using hzv
      go_wp2
      go_quiet (fail)
      go_wp2
      go_ret
      exact ⟨rfl, S, by simpa using (RTurned.same HT.out (drewN_below (bstep HB.out (Nat.le_refl _) HBY.out) _)).mono (Nat.le_succ _)⟩
  · have h := HH.out
    simp only [refL, show ¬ ((4 : Int) = 1) by decide, show ¬ ((4 : Int) = 3) by decide, if_false, if_true, Int.toNat_natCast] at h
    rw [if_pos hL0] at h
    subst h
    have hn0 : 0 < nL := by rw [← HNL.out]; exact List.length_pos_iff.2 hL0
    have i3 : (0 : Int) < (nL : Int) := by omega
    clear hL0
    go_wp2
    go_ret
    exact ⟨rfl, S, by simpa using (RTurned.same HT.out (bstep HB.out (Nat.le_refl _) HBY.out)).mono (Nat.le_succ _)⟩
end Go.Proofs.YtncgjclehplfeaaDoor

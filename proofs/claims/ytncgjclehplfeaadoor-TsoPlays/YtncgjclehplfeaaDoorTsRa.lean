/- DERIVED of the program: Step of the document's own model, a kind of event. Own work. -/
import Derived.Test.YtncgjclehplfeaaDoorTsR2
namespace Go.Proofs.YtncgjclehplfeaaDoor
open Go.RowKit Go.Extern.Stop Go.Stop Go.Extern

set_option maxHeartbeats 6400000 in
set_option maxRecDepth 20000 in
theorem rstep_1 (w : World) (q N : Nat) (S : List Nat) (A : List (List (Int × Int))) (M : List Int) (hT : RM w q S N A M) (hN : N < 100000) (m : Nat) (hm : m < A.length) (x : Nat) (hx : x < M.length) (v n : Int) (d : Bool) (r0 : Nat) (h : refL (A.getD m []) M ⟨1, m, x, v, n, d⟩ = r0) :
    Calls Tryd.prog 19 #[.pointer (some ⟨q, 0, none⟩), evv 1 (m : Int) (x : Int) v n d] w fun r w' => r = .returned (.int .i64 (r0 : Int)) ∧ ∃ S', RTurned w w' q S S' (N + 1) (if r0 = 0 then doA A ⟨1, m, x, v, n, d⟩ else A) (if r0 = 0 then doM M ⟨1, m, x, v, n, d⟩ else M) := by
  have HT := Hid.in hT
  have HM := Hid.in hm
  have hbx := below_alloc w (.cells #[.int .i64 1, .int .i64 (m : Int), .int .i64 (x : Int), .int .u32 v, .int .u32 n, .bool d] 24)
  obtain ⟨bb, o, capb, ao, cap, k0, k1, kf, hO, hbb, hrow⟩ := (hT.step hbx).row hm
  have HO := Hid.in hO
  have HROW := Hid.in hrow
  have HBB := Hid.in hbb
  have HX := Hid.in hx
  obtain ⟨mb, mo, capm, k2, k3, kg, _⟩ := (hT.step hbx).mset hx
  obtain ⟨L, hL⟩ : ∃ L, A.getD m [] = L := ⟨_, rfl⟩
  rw [hL] at k1 HO h
  obtain ⟨nL, hnL⟩ : ∃ n, L.length = n := ⟨_, rfl⟩
  rw [hnL] at k1 HO
  obtain ⟨nA, hnA⟩ : ∃ n, A.length = n := ⟨_, rfl⟩
  rw [hnA] at k0 hm
  obtain ⟨nM, hnM⟩ : ∃ n, M.length = n := ⟨_, rfl⟩
  rw [hnM] at k2 hx
  obtain ⟨z, hz⟩ : ∃ z, M.getD x 0 = z := ⟨_, rfl⟩
  rw [hz] at k3
  have HZ := Hid.in hz
  have HNM := Hid.in hnM
  have i2 : (x : Int) < (nM : Int) := by omega
  have HL := Hid.in hL
  have HNL := Hid.in hnL
  have HH := Hid.in h
  have i1 : (m : Int) < (nA : Int) := by omega
  clear hT hL hnL hnA h hO hrow hbb hbx hnM hz hx
  go_enter Tryd.func19, Tryd.ntmps19
  go_upto_region 1 with fail
  generalize hwx : w.alloc _ = wx at k0 k1 kf HO HROW k2 k3 kg
  have HB : Hid (Below w.heap.size w wx) := Hid.in (by rw [← hwx]; exact below_alloc _ _)
  have e0 : wx.cell? ⟨w.heap.size, 0, none⟩ = some (.int .i64 1) := by rw [← hwx]; exact blk_cell (heap_alloc_new _ _) rfl
  have e1 : wx.cell? ⟨w.heap.size, 1, none⟩ = some (.int .i64 (m : Int)) := by rw [← hwx]; exact blk_cell (heap_alloc_new _ _) rfl
  have e2 : wx.cell? ⟨w.heap.size, 2, none⟩ = some (.int .i64 (x : Int)) := by rw [← hwx]; exact blk_cell (heap_alloc_new _ _) rfl
  have e3 : wx.cell? ⟨w.heap.size, 3, none⟩ = some (.int .u32 v) := by rw [← hwx]; exact blk_cell (heap_alloc_new _ _) rfl
  have e4 : wx.cell? ⟨w.heap.size, 4, none⟩ = some (.int .u32 n) := by rw [← hwx]; exact blk_cell (heap_alloc_new _ _) rfl
  have e5 : wx.cell? ⟨w.heap.size, 5, none⟩ = some (.bool d) := by rw [← hwx]; exact blk_cell (heap_alloc_new _ _) rfl
  have hws : w.heap.size < wx.heap.size := lt_cell e0
  clear hwx
  go_quiet (fail)
  go_wp2
  go_quiet (fail)
  go_wp2
  go_quiet (fail)
  generalize hwy : ((wx.drewN _).drewN _).drewN _ = wy
  have HBY : Hid (Below wx.heap.size wx wy) := Hid.in (by rw [← hwy]; exact drewN_below (drewN_below (drewN_below (Below.refl _ _) _) _) _)
  have E0 : wy.cell? ⟨w.heap.size, 0, none⟩ = some (.int .i64 1) := by rw [← hwy]; exact e0
  have E1 : wy.cell? ⟨w.heap.size, 1, none⟩ = some (.int .i64 (m : Int)) := by rw [← hwy]; exact e1
  have E2 : wy.cell? ⟨w.heap.size, 2, none⟩ = some (.int .i64 (x : Int)) := by rw [← hwy]; exact e2
  have E3 : wy.cell? ⟨w.heap.size, 3, none⟩ = some (.int .u32 v) := by rw [← hwy]; exact e3
  have E4 : wy.cell? ⟨w.heap.size, 4, none⟩ = some (.int .u32 n) := by rw [← hwy]; exact e4
  have E5 : wy.cell? ⟨w.heap.size, 5, none⟩ = some (.bool d) := by rw [← hwy]; exact e5
  have K0 : wy.cell? ⟨q, 0, none⟩ = some (.slice (some ⟨bb, o, none⟩) nA capb) := by rw [← hwy]; exact k0
  have K1 : wy.cell? ⟨bb, o + m, none⟩ = some (.slice ao nL cap) := by rw [← hwy]; exact k1
  have KF : wy.frozen? ⟨bb, o + m, none⟩ = false := by rw [← hwy]; exact kf
  have K2 : wy.cell? ⟨q, 1, none⟩ = some (.slice (some ⟨mb, mo, none⟩) nM capm) := by rw [← hwy]; exact k2
  have K3 : wy.cell? ⟨mb, mo + x, none⟩ = some (.int .u32 z) := by rw [← hwy]; exact k3
  have KG : wy.frozen? ⟨mb, mo + x, none⟩ = false := by rw [← hwy]; exact kg
  have HE2 := Hid.in e2
  have HE3 := Hid.in e3
  clear hwy e0 e1 e2 e3 e4 e5 k0 k1 kf k2 k3 kg
  obtain ⟨z1, hz1⟩ : ∃ z1, rdL L M x = z1 := ⟨_, rfl⟩
  have HZ1 := Hid.in hz1
  have HRD : Hid (∀ W, Below wy.heap.size wy W → Calls Tryd.prog 23 #[.pointer (some ⟨q, 0, none⟩), .int .i64 (m : Int), .int .i64 (x : Int)] W fun r w' => r = .returned (.int .u32 z1) ∧ w' = W) := Hid.in (fun W hW => rread_c W q N S A M (HT.out.step (bstep HB.out (Nat.le_refl _) (bstep HBY.out (Nat.le_refl _) hW))) (by omega) m x HM.out HX.out z1 (by rw [HL.out]; exact HZ1.out))
  have hc1 : ∀ n : Kin (fun W => Below wy.heap.size wy W), n.of.cell? ⟨w.heap.size, 1, none⟩ = some (.int .i64 (m : Int)) := fun n => (n.in.cell (p := ⟨w.heap.size, 1, none⟩) (lt_cell E1)).trans E1
  have hc2 : ∀ n : Kin (fun W => Below wy.heap.size wy W), n.of.cell? ⟨w.heap.size, 2, none⟩ = some (.int .i64 (x : Int)) := fun n => (n.in.cell (p := ⟨w.heap.size, 2, none⟩) (lt_cell E2)).trans E2
  have hc3 : ∀ n : Kin (fun W => Below wy.heap.size wy W), n.of.cell? ⟨w.heap.size, 3, none⟩ = some (.int .u32 v) := fun n => (n.in.cell (p := ⟨w.heap.size, 3, none⟩) (lt_cell E3)).trans E3
  clear hz1
  go_upto_region 8 with fail
  refine wp_region_kin (C := fun W => Below wy.heap.size wy W) (by kernel_rfl) (by kernel_rfl) (Below.refl _ _).drew (fun hne => ?_)
  clear E0 E1 E2 E3 E4 E5 K0 K1 K2 K3
  repeat (go_big_quiet_step (first | (go_at_call 23; exact Kin.same _ (HRD.out _ (Kin.in _)))))
  refine wpQuiet_nil ?_
  rintro w6 ⟨nk, rfl⟩
  have HBZ := Hid.in (bstep HB.out (Nat.le_refl _) (bstep HBY.out (Nat.le_refl _) nk.in))
  clear hc1 hc2 hc3
  by_cases hzv : z1 = v
  · have h := HH.out
    simp only [refL, if_true, Int.toNat_natCast] at h
    rw [if_pos (HZ1.out.trans hzv)] at h
    subst h
    subst hzv
    go_wp2
    go_ret
    exact ⟨rfl, S, by simpa [doA, doM] using (RTurned.same HT.out HBZ.out).mono (Nat.le_succ _)⟩
  · have h := HH.out
    simp only [refL, if_true, Int.toNat_natCast] at h
    rw [if_neg (fun e => hzv (HZ1.out.symm.trans e))] at h
    subst h
    have hz0 : (z1 != v) = true := by simpa using hzv
    go_wp2
    go_ret
    exact ⟨rfl, S, by simpa using (RTurned.same HT.out HBZ.out).mono (Nat.le_succ _)⟩
end Go.Proofs.YtncgjclehplfeaaDoor

/- DERIVED of the program: Step of the document's own model, a kind of event. Own work. -/
import Derived.Test.YtncgjclehplfeaaDoorTsR2
namespace Go.Proofs.YtncgjclehplfeaaDoor
open Go.RowKit Go.Extern.Stop Go.Stop Go.Extern

set_option maxHeartbeats 6400000 in
set_option maxRecDepth 20000 in
theorem rstep_3 (w : World) (q N : Nat) (S : List Nat) (A : List (List (Int × Int))) (M : List Int) (hT : RM w q S N A M) (m : Nat) (hm : m < A.length) (x : Nat) (hx : x < M.length) (v n : Int) (d : Bool) (r0 : Nat) (h : refL (A.getD m []) M ⟨3, m, x, v, n, d⟩ = r0) :
    Calls Tryd.prog 19 #[.pointer (some ⟨q, 0, none⟩), evv 3 (m : Int) (x : Int) v n d] w fun r w' => r = .returned (.int .i64 (r0 : Int)) ∧ ∃ S', RTurned w w' q S S' (N + 1) (if r0 = 0 then doA A ⟨3, m, x, v, n, d⟩ else A) (if r0 = 0 then doM M ⟨3, m, x, v, n, d⟩ else M) := by
  have HT := Hid.in hT
  have HM := Hid.in hm
  have hbx := below_alloc w (.cells #[.int .i64 3, .int .i64 (m : Int), .int .i64 (x : Int), .int .u32 v, .int .u32 n, .bool d] 24)
  obtain ⟨bb, o, capb, ao, cap, k0, k1, kf, hO, hbb, hrow⟩ := (hT.step hbx).row hm
  have HO := Hid.in hO
  have HROW := Hid.in hrow
  have HBB := Hid.in hbb
  have HX := Hid.in hx
  obtain ⟨mb, mo, capm, k2, k3, kg, _⟩ := (hT.step hbx).mset hx
  obtain ⟨L, hL⟩ : ∃ L, A.getD m [] = L := ⟨_, rfl⟩
  rw [hL] at k1 HO h
  obtain ⟨nL, hnL⟩ : ∃ n, L.length = n := ⟨_, rfl⟩
  rw [hnL] at k1 HO
  obtain ⟨nA, hnA⟩ : ∃ n, A.length = n := ⟨_, rfl⟩
  rw [hnA] at k0 hm
  obtain ⟨nM, hnM⟩ : ∃ n, M.length = n := ⟨_, rfl⟩
  rw [hnM] at k2 hx
  obtain ⟨z, hz⟩ : ∃ z, M.getD x 0 = z := ⟨_, rfl⟩
  rw [hz] at k3
  have HZ := Hid.in hz
  have HNM := Hid.in hnM
  have i2 : (x : Int) < (nM : Int) := by omega
  have HL := Hid.in hL
  have HNL := Hid.in hnL
  have HH := Hid.in h
  have i1 : (m : Int) < (nA : Int) := by omega
  clear hT hL hnL hnA h hO hrow hbb hbx hnM hz hx
  go_enter Tryd.func19, Tryd.ntmps19
  go_upto_region 1 with fail
  generalize hwx : w.alloc _ = wx at k0 k1 kf HO HROW k2 k3 kg
  have HB : Hid (Below w.heap.size w wx) := Hid.in (by rw [← hwx]; exact below_alloc _ _)
  have e0 : wx.cell? ⟨w.heap.size, 0, none⟩ = some (.int .i64 3) := by rw [← hwx]; exact blk_cell (heap_alloc_new _ _) rfl
  have e1 : wx.cell? ⟨w.heap.size, 1, none⟩ = some (.int .i64 (m : Int)) := by rw [← hwx]; exact blk_cell (heap_alloc_new _ _) rfl
  have e2 : wx.cell? ⟨w.heap.size, 2, none⟩ = some (.int .i64 (x : Int)) := by rw [← hwx]; exact blk_cell (heap_alloc_new _ _) rfl
  have e3 : wx.cell? ⟨w.heap.size, 3, none⟩ = some (.int .u32 v) := by rw [← hwx]; exact blk_cell (heap_alloc_new _ _) rfl
  have e4 : wx.cell? ⟨w.heap.size, 4, none⟩ = some (.int .u32 n) := by rw [← hwx]; exact blk_cell (heap_alloc_new _ _) rfl
  have e5 : wx.cell? ⟨w.heap.size, 5, none⟩ = some (.bool d) := by rw [← hwx]; exact blk_cell (heap_alloc_new _ _) rfl
  have hws : w.heap.size < wx.heap.size := lt_cell e0
  clear hwx
  go_quiet (fail)
  go_wp2
  go_quiet (fail)
  go_wp2
  go_quiet (fail)
  generalize hwy : ((wx.drewN _).drewN _).drewN _ = wy
  have HBY : Hid (Below wx.heap.size wx wy) := Hid.in (by rw [← hwy]; exact drewN_below (drewN_below (drewN_below (Below.refl _ _) _) _) _)
  have E0 : wy.cell? ⟨w.heap.size, 0, none⟩ = some (.int .i64 3) := by rw [← hwy]; exact e0
  have E1 : wy.cell? ⟨w.heap.size, 1, none⟩ = some (.int .i64 (m : Int)) := by rw [← hwy]; exact e1
  have E2 : wy.cell? ⟨w.heap.size, 2, none⟩ = some (.int .i64 (x : Int)) := by rw [← hwy]; exact e2
  have E3 : wy.cell? ⟨w.heap.size, 3, none⟩ = some (.int .u32 v) := by rw [← hwy]; exact e3
  have E4 : wy.cell? ⟨w.heap.size, 4, none⟩ = some (.int .u32 n) := by rw [← hwy]; exact e4
  have E5 : wy.cell? ⟨w.heap.size, 5, none⟩ = some (.bool d) := by rw [← hwy]; exact e5
  have K0 : wy.cell? ⟨q, 0, none⟩ = some (.slice (some ⟨bb, o, none⟩) nA capb) := by rw [← hwy]; exact k0
  have K1 : wy.cell? ⟨bb, o + m, none⟩ = some (.slice ao nL cap) := by rw [← hwy]; exact k1
  have KF : wy.frozen? ⟨bb, o + m, none⟩ = false := by rw [← hwy]; exact kf
  have K2 : wy.cell? ⟨q, 1, none⟩ = some (.slice (some ⟨mb, mo, none⟩) nM capm) := by rw [← hwy]; exact k2
  have K3 : wy.cell? ⟨mb, mo + x, none⟩ = some (.int .u32 z) := by rw [← hwy]; exact k3
  have KG : wy.frozen? ⟨mb, mo + x, none⟩ = false := by rw [← hwy]; exact kg
  have HE2 := Hid.in e2
  have HE3 := Hid.in e3
  clear hwy e0 e1 e2 e3 e4 e5 k0 k1 kf k2 k3 kg
  cases L with
  | nil =>
    have h := HH.out
    simp only [refL, show ¬ ((3 : Int) = 1) by decide, if_false, if_true] at h
    subst h
    obtain rfl : nL = 0 := by rw [← HNL.out]; rfl
    go_wp2
    go_ret
    exact ⟨rfl, S, by simpa using (RTurned.same HT.out (bstep HB.out (Nat.le_refl _) HBY.out)).mono (Nat.le_succ _)⟩
  | cons p R =>
    obtain ⟨px, py⟩ := p
    have hn0 : 0 < nL := by rw [← HNL.out]; simp
    obtain ⟨b, o', x', y', hao, y0, y1, hxy⟩ := (HO.out.step HBY.out).wat 0 hn0
    cases hxy
    subst hao
    rw [Nat.zero_mul, Nat.add_zero] at y0 y1
    have i3 : (0 : Int) < (nL : Int) := by omega
    have i4 : ((nL : Int) == 0) = false := by simp; omega
    have hne := ne_rw px py (x : Int) v _ rfl
    by_cases hxa : px = (x : Int) ∧ py = v
    · obtain ⟨rfl, rfl⟩ := hxa
      have h := HH.out
      simp only [refL, show ¬ ((3 : Int) = 1) by decide, if_false, if_true] at h
      subst h
      simp only [and_self, decide_true, Bool.not_true] at hne
      have hs1 := slice_from1 59 90 _ _ Tryd.underlying59 Tryd.infoRW b o' nL cap (by omega)
      have hTl := OwnA.tail (HO.out.step HBY.out) (by omega)
      have hblk : oblk (some (if cap = 1 then (⟨b, o', none⟩ : Addr) else ⟨b, o' + 2, none⟩)) = some b := by split <;> rfl
      obtain ⟨X, hX⟩ : ∃ X, (if cap = 1 then (⟨b, o', none⟩ : Addr) else ⟨b, o' + 2, none⟩) = X := ⟨_, rfl⟩
      rw [hX] at hs1 hTl hblk
      have hRl : R.length = nL - 1 := by have := HNL.out; simp only [List.length_cons] at this; omega
      have HTL : Hid (OwnA 90 2 wy 0 (some X) R.length (cap - 1) (R.map wc)) := Hid.in (by rw [hRl]; exact hTl)
      have HBK := Hid.in hblk
      have hRN : R.length ≤ N + 1 := by
        have h1 := HT.out.n (A.getD m []) (by
          have hcA : A.getD m [] = A[m]'HM.out := by simp [List.getD, HM.out]
          rw [hcA]; exact List.getElem_mem HM.out)
        rw [HL.out] at h1
        simp only [List.length_cons] at h1
        omega
      have hstep : ∀ W, Below wy.heap.size wy W → ∃ S', RTurned wx (W.setCell ⟨bb, o + m, none⟩ (.slice (some X) R.length (cap - 1))) q S S' (N + 1) (A.set m R) M := fun W hW => HROW.out W (some X) (cap - 1) R (bstep HBY.out (Nat.le_refl _) hW) (HTL.out.step hW) (fun k hk => .inl (by rw [HBK.out] at hk; exact hk)) hRN
      have HST := Hid.in hstep
      have HRL := Hid.in hRl
      clear hX hTl hblk hstep hRN hRl
      go_upto_region 15 with fail
      go_quiet (fail)
      go_upto_region 17 with fail
      generalize hwz : wy.drewN nq = wz
      have HBZ : Hid (Below wy.heap.size wy wz) := Hid.in (by rw [← hwz]; exact drewN_below (Below.refl _ _) _)
      have F0 : wz.cell? ⟨q, 0, none⟩ = some (.slice (some ⟨bb, o, none⟩) nA capb) := by rw [← hwz]; exact K0
      have F1 : wz.cell? ⟨bb, o + m, none⟩ = some (.slice (some ⟨b, o', none⟩) nL cap) := by rw [← hwz]; exact K1
      have FF : wz.frozen? ⟨bb, o + m, none⟩ = false := by rw [← hwz]; exact KF
      have G1 : wz.cell? ⟨w.heap.size, 1, none⟩ = some (.int .i64 (m : Int)) := by rw [← hwz]; exact E1
      have G2 : wz.cell? ⟨w.heap.size, 2, none⟩ = some (.int .i64 (x : Int)) := by rw [← hwz]; exact E2
      have G3 : wz.cell? ⟨w.heap.size, 3, none⟩ = some (.int .u32 py) := by rw [← hwz]; exact E3
      clear hwz E0 E1 E2 E3 E4 E5 K0 K1 K2 K3 KF KG y0 y1
      refine wp_region_but (fun W => cellIs q 0 (.slice (some ⟨bb, o, none⟩) nA capb) W ∧ cellIs w.heap.size 1 (.int .i64 (m : Int)) W) 9 (by kernel_rfl) ?_
      have HS : Hid (cellIs q 0 (.slice (some ⟨bb, o, none⟩) nA capb) wz.drew ∧ cellIs w.heap.size 1 (.int .i64 (m : Int)) wz.drew) := Hid.in ⟨F0, G1⟩
      refine wpBut_take (i := 0) (v := ?_) rfl (by kernel_rfl) (by kernel_rfl) (by exact fun _ _ _ h => h) HS.out (Or.inl ⟨by rfl, ?_⟩) ?_
      case refine_2 => (intro w hSw; obtain ⟨s1, s2⟩ := hSw; simp only [cellIs] at s1 s2; go_simp; try with_reducible rfl)
      simp only [Act.put, List.setIfInBounds_toArray, List.set_cons_zero, List.set_cons_succ]
      refine wpBut_take (i := 1) (v := ?_) rfl (by kernel_rfl) (by kernel_rfl) (by exact fun _ _ _ h => h) HS.out (Or.inl ⟨by rfl, ?_⟩) ?_
      case refine_2 => (intro w hSw; obtain ⟨s1, s2⟩ := hSw; simp only [cellIs] at s1 s2; go_simp; try with_reducible rfl)
      simp only [Act.put, List.setIfInBounds_toArray, List.set_cons_zero, List.set_cons_succ]
      refine wpBut_take (i := 2) (v := ?_) rfl (by kernel_rfl) (by kernel_rfl) (by exact fun _ _ _ h => h) HS.out (Or.inl ⟨by rfl, ?_⟩) ?_
      case refine_2 => (intro w hSw; obtain ⟨s1, s2⟩ := hSw; simp only [cellIs] at s1 s2; go_simp; try with_reducible rfl)
      simp only [Act.put, List.setIfInBounds_toArray, List.set_cons_zero, List.set_cons_succ]
      refine wpBut_take (i := 3) (v := ?_) rfl (by kernel_rfl) (by kernel_rfl) (by exact fun _ _ _ h => h) HS.out (Or.inl ⟨by rfl, ?_⟩) ?_
      case refine_2 => (intro w hSw; obtain ⟨s1, s2⟩ := hSw; simp only [cellIs] at s1 s2; go_simp; try with_reducible rfl)
      simp only [Act.put, List.setIfInBounds_toArray, List.set_cons_zero, List.set_cons_succ]
      refine wpBut_take (i := 4) (v := ?_) rfl (by kernel_rfl) (by kernel_rfl) (by exact fun _ _ _ h => h) HS.out (Or.inl ⟨by rfl, ?_⟩) ?_
      case refine_2 => (intro w hSw; obtain ⟨s1, s2⟩ := hSw; simp only [cellIs] at s1 s2; go_simp; try with_reducible rfl)
      simp only [Act.put, List.setIfInBounds_toArray, List.set_cons_zero, List.set_cons_succ]
      refine wpBut_take (i := 5) (v := ?_) rfl (by kernel_rfl) (by kernel_rfl) (by exact fun _ _ _ h => h) HS.out (Or.inl ⟨by rfl, ?_⟩) ?_
      case refine_2 => (intro w hSw; obtain ⟨s1, s2⟩ := hSw; simp only [cellIs] at s1 s2; go_simp; try with_reducible rfl)
      simp only [Act.put, List.setIfInBounds_toArray, List.set_cons_zero, List.set_cons_succ]
      refine wpBut_take (i := 6) (v := ?_) rfl (by kernel_rfl) (by kernel_rfl) (by exact fun _ _ _ h => h) HS.out (Or.inl ⟨by rfl, ?_⟩) ?_
      case refine_2 => (intro w hSw; obtain ⟨s1, s2⟩ := hSw; simp only [cellIs] at s1 s2; go_simp; try with_reducible rfl)
      simp only [Act.put, List.setIfInBounds_toArray, List.set_cons_zero, List.set_cons_succ]
      refine wpBut_take (i := 7) (v := ?_) rfl (by kernel_rfl) (by kernel_rfl) (by exact fun _ _ _ h => h) HS.out (Or.inl ⟨by rfl, ?_⟩) ?_
      case refine_2 => (intro w hSw; obtain ⟨s1, s2⟩ := hSw; simp only [cellIs] at s1 s2; go_simp; try with_reducible rfl)
      simp only [Act.put, List.setIfInBounds_toArray, List.set_cons_zero, List.set_cons_succ]
      refine wpBut_take (i := 8) (v := ?_) rfl (by kernel_rfl) (by kernel_rfl) (by exact fun _ _ _ h => h) HS.out (Or.inl ⟨by rfl, ?_⟩) ?_
      case refine_2 => (intro w hSw; obtain ⟨s1, s2⟩ := hSw; simp only [cellIs] at s1 s2; go_simp; try with_reducible rfl)
      simp only [Act.put, List.setIfInBounds_toArray, List.set_cons_zero, List.set_cons_succ]
      refine wpBut_one (i := 9) rfl (by kernel_rfl) (fun K HK => ?_)
      go_simp
      refine HK.out _ _ (fun h => absurd rfl h) ?_
      clear HK K HS
      refine wpBut_done (by kernel_rfl) ?_ _
      obtain ⟨S2, hT2⟩ := HST.out wz.drew (bstep HBZ.out (Nat.le_refl _) (Below.refl _ _).drew)
      rw [HRL.out] at hT2
      have HT2 : Hid (RTurned wx (wz.setCell ⟨bb, o + m, none⟩ (.slice (some X) (nL - 1) (cap - 1))).drew q S S2 (N + 1) (A.set m R) M) := Hid.in hT2
      clear hT2
      generalize (wz.setCell ⟨bb, o + m, none⟩ (.slice (some X) (nL - 1) (cap - 1))).drew = w5 at HT2 ⊢
      obtain ⟨mb2, mo2, capm2, j0, jz, jf, hset⟩ := HT2.out.p.mset HX.out
      have HSET := Hid.in (hset py)
      rw [HNM.out] at j0
      have g2 : w5.cell? ⟨w.heap.size, 2, none⟩ = _ := HT2.out.f.cell HE2.out (HT.out.far (Nat.le_refl _))
      have g3 : w5.cell? ⟨w.heap.size, 3, none⟩ = _ := HT2.out.f.cell HE3.out (HT.out.far (Nat.le_refl _))
      clear hset G1 G2 G3 F0 F1 FF hs1
      go_upto_region 18 with fail
      refine wp_region_but (fun W => cellIs q 1 (.slice (some ⟨mb2, mo2, none⟩) nM capm2) W ∧ cellIs w.heap.size 2 (.int .i64 (x : Int)) W ∧ cellIs w.heap.size 3 (.int .u32 py) W) 9 (by kernel_rfl) ?_
      have HS : Hid (cellIs q 1 (.slice (some ⟨mb2, mo2, none⟩) nM capm2) w5.drew ∧ cellIs w.heap.size 2 (.int .i64 (x : Int)) w5.drew ∧ cellIs w.heap.size 3 (.int .u32 py) w5.drew) := Hid.in ⟨j0, g2, g3⟩
      refine wpBut_take (i := 0) (v := ?_) rfl (by kernel_rfl) (by kernel_rfl) (by exact fun _ _ _ h => h) HS.out (Or.inl ⟨by rfl, ?_⟩) ?_
      case refine_2 => (intro w hSw; obtain ⟨s1, s2, s3⟩ := hSw; simp only [cellIs] at s1 s2 s3; go_simp; try with_reducible rfl)
      simp only [Act.put, List.setIfInBounds_toArray, List.set_cons_zero, List.set_cons_succ]
      refine wpBut_take (i := 1) (v := ?_) rfl (by kernel_rfl) (by kernel_rfl) (by exact fun _ _ _ h => h) HS.out (Or.inl ⟨by rfl, ?_⟩) ?_
      case refine_2 => (intro w hSw; obtain ⟨s1, s2, s3⟩ := hSw; simp only [cellIs] at s1 s2 s3; go_simp; try with_reducible rfl)
      simp only [Act.put, List.setIfInBounds_toArray, List.set_cons_zero, List.set_cons_succ]
      refine wpBut_take (i := 2) (v := ?_) rfl (by kernel_rfl) (by kernel_rfl) (by exact fun _ _ _ h => h) HS.out (Or.inl ⟨by rfl, ?_⟩) ?_
      case refine_2 => (intro w hSw; obtain ⟨s1, s2, s3⟩ := hSw; simp only [cellIs] at s1 s2 s3; go_simp; try with_reducible rfl)
      simp only [Act.put, List.setIfInBounds_toArray, List.set_cons_zero, List.set_cons_succ]
      refine wpBut_take (i := 3) (v := ?_) rfl (by kernel_rfl) (by kernel_rfl) (by exact fun _ _ _ h => h) HS.out (Or.inl ⟨by rfl, ?_⟩) ?_
      case refine_2 => (intro w hSw; obtain ⟨s1, s2, s3⟩ := hSw; simp only [cellIs] at s1 s2 s3; go_simp; try with_reducible rfl)
      simp only [Act.put, List.setIfInBounds_toArray, List.set_cons_zero, List.set_cons_succ]
      refine wpBut_take (i := 4) (v := ?_) rfl (by kernel_rfl) (by kernel_rfl) (by exact fun _ _ _ h => h) HS.out (Or.inl ⟨by rfl, ?_⟩) ?_
      case refine_2 => (intro w hSw; obtain ⟨s1, s2, s3⟩ := hSw; simp only [cellIs] at s1 s2 s3; go_simp; try with_reducible rfl)
      simp only [Act.put, List.setIfInBounds_toArray, List.set_cons_zero, List.set_cons_succ]
      refine wpBut_take (i := 5) (v := ?_) rfl (by kernel_rfl) (by kernel_rfl) (by exact fun _ _ _ h => h) HS.out (Or.inl ⟨by rfl, ?_⟩) ?_
      case refine_2 => (intro w hSw; obtain ⟨s1, s2, s3⟩ := hSw; simp only [cellIs] at s1 s2 s3; go_simp; try with_reducible rfl)
      simp only [Act.put, List.setIfInBounds_toArray, List.set_cons_zero, List.set_cons_succ]
      refine wpBut_take (i := 6) (v := ?_) rfl (by kernel_rfl) (by kernel_rfl) (by exact fun _ _ _ h => h) HS.out (Or.inl ⟨by rfl, ?_⟩) ?_
      case refine_2 => (intro w hSw; obtain ⟨s1, s2, s3⟩ := hSw; simp only [cellIs] at s1 s2 s3; go_simp; try with_reducible rfl)
      simp only [Act.put, List.setIfInBounds_toArray, List.set_cons_zero, List.set_cons_succ]
      refine wpBut_take (i := 7) (v := ?_) rfl (by kernel_rfl) (by kernel_rfl) (by exact fun _ _ _ h => h) HS.out (Or.inl ⟨by rfl, ?_⟩) ?_
      case refine_2 => (intro w hSw; obtain ⟨s1, s2, s3⟩ := hSw; simp only [cellIs] at s1 s2 s3; go_simp; try with_reducible rfl)
      simp only [Act.put, List.setIfInBounds_toArray, List.set_cons_zero, List.set_cons_succ]
      refine wpBut_take (i := 8) (v := ?_) rfl (by kernel_rfl) (by kernel_rfl) (by exact fun _ _ _ h => h) HS.out (Or.inl ⟨by rfl, ?_⟩) ?_
      case refine_2 => (intro w hSw; obtain ⟨s1, s2, s3⟩ := hSw; simp only [cellIs] at s1 s2 s3; go_simp; try with_reducible rfl)
      simp only [Act.put, List.setIfInBounds_toArray, List.set_cons_zero, List.set_cons_succ]
      refine wpBut_one (i := 9) rfl (by kernel_rfl) (fun K HK => ?_)
      go_simp
      refine HK.out _ _ (fun h => absurd rfl h) ?_
      clear HK K HS j0 jz jf g2 g3
      refine wpBut_done (by kernel_rfl) ?_ _
      have HFIN : Hid (RTurned w (w5.setCell ⟨mb2, mo2 + x, none⟩ (.int .u32 py)).drew q S S2 (N + 1) (A.set m R) (M.set x py)) := Hid.in ((((HT2.out.after HB.out)).trans HSET.out).then (Below.refl _ _).drew)
      go_wp2
      go_ret
      refine ⟨rfl, S2, ?_⟩
      have hd : (A.getD m []).drop 1 = R := by rw [HL.out]; rfl
      simp only [doA, doM, show ¬ ((3 : Int) = 2) by decide, if_false, if_true, Int.toNat_natCast, hd]
      exact HFIN.out
    · have h := HH.out
      simp only [refL, show ¬ ((3 : Int) = 1) by decide, if_false, if_true, Prod.mk.injEq, if_neg hxa] at h
      subst h
      simp only [decide_eq_false hxa, Bool.not_false] at hne
      clear hxa
      go_upto_region 15 with fail
      go_quiet (fail)
      go_wp2
      go_ret
      exact ⟨rfl, S, by simpa using (RTurned.same HT.out (drewN_below (bstep HB.out (Nat.le_refl _) HBY.out) _)).mono (Nat.le_succ _)⟩
end Go.Proofs.YtncgjclehplfeaaDoor

/- DERIVED of the program: Step of the document's own model, a kind of event. Own work. -/
import Derived.Test.YtncgjclehplfeaaDoorTsR2
namespace Go.Proofs.YtncgjclehplfeaaDoor
open Go.RowKit Go.Extern.Stop Go.Stop Go.Extern

theorem Rows'.kept {m : Nat} {w w' : World} {b o cap : Nat} {rs : List (List Value)} {row : Option Nat} (h : Rows' m w (some ⟨b, o, none⟩) cap rs) (hg : w.grownBy w' row) (hne : some b ≠ row) (hl : b < w.heap.size) : Rows' m w' (some ⟨b, o, none⟩) cap rs :=
  ⟨h.le, fun k hk c v hv => by obtain ⟨b', o', e, hc⟩ := h.cell k hk c v hv; cases e; exact ⟨b, o, rfl, by rw [← hc]; have := hg.block b hl hne; simp only [World.cell?, this]⟩, h.each, h.nil0⟩
set_option maxHeartbeats 6400000 in
set_option maxRecDepth 20000 in
theorem rstep_2 (w : World) (q N : Nat) (S : List Nat) (A : List (List (Int × Int))) (M : List Int) (hT : RM w q S N A M) (hN : N < 100000) (m : Nat) (hm : m < A.length) (x : Nat) (hx : x < M.length) (v n : Int) (d : Bool) (r0 : Nat) (h : refL (A.getD m []) M ⟨2, m, x, v, n, d⟩ = r0) :
    Calls Tryd.prog 19 #[.pointer (some ⟨q, 0, none⟩), evv 2 (m : Int) (x : Int) v n d] w fun r w' => r = .returned (.int .i64 (r0 : Int)) ∧ ∃ S', RTurned w w' q S S' (N + 1) (if r0 = 0 then doA A ⟨2, m, x, v, n, d⟩ else A) (if r0 = 0 then doM M ⟨2, m, x, v, n, d⟩ else M) := by
  have HT := Hid.in hT
  have HM := Hid.in hm
  have hbx := below_alloc w (.cells #[.int .i64 2, .int .i64 (m : Int), .int .i64 (x : Int), .int .u32 v, .int .u32 n, .bool d] 24)
  obtain ⟨bb, o, capb, ao, cap, k0, k1, kf, hO, hbb, hrow⟩ := (hT.step hbx).row hm
  have HO := Hid.in hO
  have HROW := Hid.in hrow
  have HBB := Hid.in hbb
  have HX := Hid.in hx
  obtain ⟨mb, mo, capm, k2, k3, kg, _⟩ := (hT.step hbx).mset hx
  obtain ⟨L, hL⟩ : ∃ L, A.getD m [] = L := ⟨_, rfl⟩
  rw [hL] at k1 HO h
  obtain ⟨nL, hnL⟩ : ∃ n, L.length = n := ⟨_, rfl⟩
  rw [hnL] at k1 HO
  obtain ⟨nA, hnA⟩ : ∃ n, A.length = n := ⟨_, rfl⟩
  rw [hnA] at k0 hm
  obtain ⟨nM, hnM⟩ : ∃ n, M.length = n := ⟨_, rfl⟩
  rw [hnM] at k2 hx
  obtain ⟨z, hz⟩ : ∃ z, M.getD x 0 = z := ⟨_, rfl⟩
  rw [hz] at k3
  have HZ := Hid.in hz
  have HNM := Hid.in hnM
  have i2 : (x : Int) < (nM : Int) := by omega
  have HL := Hid.in hL
  have HNL := Hid.in hnL
  have HH := Hid.in h
  have i1 : (m : Int) < (nA : Int) := by omega
  clear hT hL hnL hnA h hO hrow hbb hbx hnM hz hx
  go_enter Tryd.func19, Tryd.ntmps19
  go_upto_region 1 with fail
  generalize hwx : w.alloc _ = wx at k0 k1 kf HO HROW k2 k3 kg
  have HB : Hid (Below w.heap.size w wx) := Hid.in (by rw [← hwx]; exact below_alloc _ _)
  have e0 : wx.cell? ⟨w.heap.size, 0, none⟩ = some (.int .i64 2) := by rw [← hwx]; exact blk_cell (heap_alloc_new _ _) rfl
  have e1 : wx.cell? ⟨w.heap.size, 1, none⟩ = some (.int .i64 (m : Int)) := by rw [← hwx]; exact blk_cell (heap_alloc_new _ _) rfl
  have e2 : wx.cell? ⟨w.heap.size, 2, none⟩ = some (.int .i64 (x : Int)) := by rw [← hwx]; exact blk_cell (heap_alloc_new _ _) rfl
  have e3 : wx.cell? ⟨w.heap.size, 3, none⟩ = some (.int .u32 v) := by rw [← hwx]; exact blk_cell (heap_alloc_new _ _) rfl
  have e4 : wx.cell? ⟨w.heap.size, 4, none⟩ = some (.int .u32 n) := by rw [← hwx]; exact blk_cell (heap_alloc_new _ _) rfl
  have e5 : wx.cell? ⟨w.heap.size, 5, none⟩ = some (.bool d) := by rw [← hwx]; exact blk_cell (heap_alloc_new _ _) rfl
  have hws : w.heap.size < wx.heap.size := lt_cell e0
  clear hwx
  go_quiet (fail)
  go_wp2
  go_quiet (fail)
  go_wp2
  go_quiet (fail)
  generalize hwy : ((wx.drewN _).drewN _).drewN _ = wy
  have HBY : Hid (Below wx.heap.size wx wy) := Hid.in (by rw [← hwy]; exact drewN_below (drewN_below (drewN_below (Below.refl _ _) _) _) _)
  have E0 : wy.cell? ⟨w.heap.size, 0, none⟩ = some (.int .i64 2) := by rw [← hwy]; exact e0
  have E1 : wy.cell? ⟨w.heap.size, 1, none⟩ = some (.int .i64 (m : Int)) := by rw [← hwy]; exact e1
  have E2 : wy.cell? ⟨w.heap.size, 2, none⟩ = some (.int .i64 (x : Int)) := by rw [← hwy]; exact e2
  have E3 : wy.cell? ⟨w.heap.size, 3, none⟩ = some (.int .u32 v) := by rw [← hwy]; exact e3
  have E4 : wy.cell? ⟨w.heap.size, 4, none⟩ = some (.int .u32 n) := by rw [← hwy]; exact e4
  have E5 : wy.cell? ⟨w.heap.size, 5, none⟩ = some (.bool d) := by rw [← hwy]; exact e5
  have K0 : wy.cell? ⟨q, 0, none⟩ = some (.slice (some ⟨bb, o, none⟩) nA capb) := by rw [← hwy]; exact k0
  have K1 : wy.cell? ⟨bb, o + m, none⟩ = some (.slice ao nL cap) := by rw [← hwy]; exact k1
  have KF : wy.frozen? ⟨bb, o + m, none⟩ = false := by rw [← hwy]; exact kf
  have K2 : wy.cell? ⟨q, 1, none⟩ = some (.slice (some ⟨mb, mo, none⟩) nM capm) := by rw [← hwy]; exact k2
  have K3 : wy.cell? ⟨mb, mo + x, none⟩ = some (.int .u32 z) := by rw [← hwy]; exact k3
  have KG : wy.frozen? ⟨mb, mo + x, none⟩ = false := by rw [← hwy]; exact kg
  have HE2 := Hid.in e2
  have HE3 := Hid.in e3
  clear hwy e0 e1 e2 e3 e4 e5 k0 k1 kf k2 k3 kg
  have h := HH.out
  simp only [refL, show ¬ ((2 : Int) = 1) by decide, show ¬ ((2 : Int) = 3) by decide, show ¬ ((2 : Int) = 4) by decide, show ¬ ((2 : Int) = 5) by decide, if_false] at h
  subst h
  have HLN : Hid (nL = (L.map wc).length) := Hid.in (by rw [List.length_map, HNL.out])
  have HRL := Hid.in (OwnA.rw2 HO.out)
  have hnN : nL ≤ N := by
    have h1 := HT.out.n (A.getD m []) (by
      have hcA : A.getD m [] = A[m]'HM.out := by simp [List.getD, HM.out]
      rw [hcA]; exact List.getElem_mem HM.out)
    rw [HL.out, HNL.out] at h1
    exact h1
  have hn6 : 0 + nL ≤ 1000000 := by omega
  have hn7 : nL + 1 ≤ 1000000 := by omega
  have hbz := lt_cell K1
  have hqz := lt_cell K0
  have hez := lt_cell E0
  have HF : Hid (∀ W, Below wy.heap.size wy W → W.cell? ⟨q, 0, none⟩ = some (.slice (some ⟨bb, o, none⟩) nA capb) ∧ W.cell? ⟨w.heap.size, 1, none⟩ = some (.int .i64 (m : Int)) ∧ W.cell? ⟨w.heap.size, 2, none⟩ = some (.int .i64 (x : Int)) ∧ W.cell? ⟨w.heap.size, 3, none⟩ = some (.int .u32 v)) := Hid.in (fun W hW => ⟨(hW.cell (p := ⟨q, 0, none⟩) hqz).trans K0, (hW.cell (p := ⟨w.heap.size, 1, none⟩) hez).trans E1, (hW.cell (p := ⟨w.heap.size, 2, none⟩) hez).trans E2, (hW.cell (p := ⟨w.heap.size, 3, none⟩) hez).trans E3⟩)
  go_upto_region 11 with fail
  clear E0 E1 E2 E3 E4 E5 K0 K2 K3 KG
  refine wp_region_but (fun W => Below wy.heap.size wy W) 17 (by kernel_rfl) ?_
  have HS : Hid (Below wy.heap.size wy wy.drew) := Hid.in (Below.refl _ _).drew
  refine wpBut_take (i := 0) (v := ?_) rfl (by kernel_rfl) (by kernel_rfl) (by exact fun _ _ _ h => h) HS.out (Or.inl ⟨by rfl, ?_⟩) ?_
  case refine_2 => (intro W hSw; obtain ⟨s1, s2, s3, s4⟩ := HF.out W hSw; go_simp; try with_reducible rfl)
  simp only [Act.put, List.setIfInBounds_toArray, List.set_cons_zero, List.set_cons_succ]
  refine wpBut_take (i := 1) (v := ?_) rfl (by kernel_rfl) (by kernel_rfl) (by exact fun _ _ _ h => h) HS.out (Or.inl ⟨by rfl, ?_⟩) ?_
  case refine_2 => (intro W hSw; obtain ⟨s1, s2, s3, s4⟩ := HF.out W hSw; go_simp; try with_reducible rfl)
  simp only [Act.put, List.setIfInBounds_toArray, List.set_cons_zero, List.set_cons_succ]
  refine wpBut_take (i := 2) (v := ?_) rfl (by kernel_rfl) (by kernel_rfl) (by exact fun _ _ _ h => h) HS.out (Or.inl ⟨by rfl, ?_⟩) ?_
  case refine_2 => (intro W hSw; obtain ⟨s1, s2, s3, s4⟩ := HF.out W hSw; go_simp; try with_reducible rfl)
  simp only [Act.put, List.setIfInBounds_toArray, List.set_cons_zero, List.set_cons_succ]
  refine wpBut_take (i := 3) (v := ?_) rfl (by kernel_rfl) (by kernel_rfl) (by exact fun _ _ _ h => h) HS.out (Or.inl ⟨by rfl, ?_⟩) ?_
  case refine_2 => (intro W hSw; obtain ⟨s1, s2, s3, s4⟩ := HF.out W hSw; go_simp; try with_reducible rfl)
  simp only [Act.put, List.setIfInBounds_toArray, List.set_cons_zero, List.set_cons_succ]
  refine wpBut_take (i := 4) (v := ?_) rfl (by kernel_rfl) (by kernel_rfl) (by exact fun _ _ _ h => h) HS.out (Or.inl ⟨by rfl, ?_⟩) ?_
  case refine_2 => (intro W hSw; obtain ⟨s1, s2, s3, s4⟩ := HF.out W hSw; go_simp; try with_reducible rfl)
  simp only [Act.put, List.setIfInBounds_toArray, List.set_cons_zero, List.set_cons_succ]
  refine wpBut_take (i := 5) (v := ?_) rfl (by kernel_rfl) (by kernel_rfl) (by exact fun _ _ _ h => h) HS.out (Or.inl ⟨by rfl, ?_⟩) ?_
  case refine_2 => (intro W hSw; obtain ⟨s1, s2, s3, s4⟩ := HF.out W hSw; go_simp; try with_reducible rfl)
  simp only [Act.put, List.setIfInBounds_toArray, List.set_cons_zero, List.set_cons_succ]
  refine wpBut_take (i := 7) (v := ?_) rfl (by kernel_rfl) (by kernel_rfl) (by exact fun _ _ _ h => h) HS.out (Or.inl ⟨by rfl, ?_⟩) ?_
  case refine_2 => (intro W hSw; obtain ⟨s1, s2, s3, s4⟩ := HF.out W hSw; go_simp; try with_reducible rfl)
  simp only [Act.put, List.setIfInBounds_toArray, List.set_cons_zero, List.set_cons_succ]
  refine wpBut_take (i := 9) (v := ?_) rfl (by kernel_rfl) (by kernel_rfl) (by exact fun _ _ _ h => h) HS.out (Or.inl ⟨by rfl, ?_⟩) ?_
  case refine_2 => (intro W hSw; obtain ⟨s1, s2, s3, s4⟩ := HF.out W hSw; go_simp; try with_reducible rfl)
  simp only [Act.put, List.setIfInBounds_toArray, List.set_cons_zero, List.set_cons_succ]
  refine wpBut_take (i := 10) (v := ?_) rfl (by kernel_rfl) (by kernel_rfl) (by exact fun _ _ _ h => h) HS.out (Or.inl ⟨by rfl, ?_⟩) ?_
  case refine_2 => (intro W hSw; obtain ⟨s1, s2, s3, s4⟩ := HF.out W hSw; go_simp; try with_reducible rfl)
  simp only [Act.put, List.setIfInBounds_toArray, List.set_cons_zero, List.set_cons_succ]
  refine wpBut_take (i := 11) (v := ?_) rfl (by kernel_rfl) (by kernel_rfl) (by exact fun _ _ _ h => h) HS.out (Or.inl ⟨by rfl, ?_⟩) ?_
  case refine_2 => (intro W hSw; obtain ⟨s1, s2, s3, s4⟩ := HF.out W hSw; go_simp; try with_reducible rfl)
  simp only [Act.put, List.setIfInBounds_toArray, List.set_cons_zero, List.set_cons_succ]
  refine wpBut_take (i := 12) (v := ?_) rfl (by kernel_rfl) (by kernel_rfl) (by exact fun _ _ _ h => h) HS.out (Or.inl ⟨by rfl, ?_⟩) ?_
  case refine_2 => (intro W hSw; obtain ⟨s1, s2, s3, s4⟩ := HF.out W hSw; go_simp; try with_reducible rfl)
  simp only [Act.put, List.setIfInBounds_toArray, List.set_cons_zero, List.set_cons_succ]
  refine wpBut_take (i := 13) (v := ?_) rfl (by kernel_rfl) (by kernel_rfl) (by exact fun _ _ _ h => h) HS.out (Or.inl ⟨by rfl, ?_⟩) ?_
  case refine_2 => (intro W hSw; obtain ⟨s1, s2, s3, s4⟩ := HF.out W hSw; go_simp; try with_reducible rfl)
  simp only [Act.put, List.setIfInBounds_toArray, List.set_cons_zero, List.set_cons_succ]
  refine wpBut_two (i := 6) (j := 14) rfl rfl (by kernel_rfl) (fun K HK => ?_) (fun K HK => ?_)
  · go_simp
    refine HK.out _ _ (fun _ => bstep HS.out (Nat.le_refl _) (below_alloc _ _)) ?_
    clear HK K
    have HBA : Hid (Below wy.heap.size wy (wy.drew.alloc (.cells #[] 90))) := Hid.in (bstep HS.out (Nat.le_refl _) (below_alloc _ _))
    have hoa : OwnA 90 2 (wy.drew.alloc (.cells #[] 90)) wy.heap.size (some ⟨wy.drew.heap.size, 0, none⟩) 0 0 [] := OwnA.empty _ _ _ _ HS.out.size
    have esz : wy.drew.heap.size = wy.heap.size := by simp
    rw [esz] at hoa
    clear esz
    have HOA := Hid.in hoa
    clear hoa
    refine wpBut_two (i := 8) (j := 14) rfl rfl (by kernel_rfl) (fun K HK => ?_) (fun K HK => ?_)
    · refine step_concatA rfl 59 90 2 16 _ (.tmp 76) (.tmp 77) rfl Tryd.underlying59 Tryd.infoRW rfl (by decide) (by decide) wy.heap.size (some ⟨wy.heap.size, 0, none⟩) ao 0 0 nL cap [] (L.map wc) rfl HOA.out rfl HLN.out (HRL.out.step (bstep HBY.out (Nat.le_refl _) HBA.out)) HBA.out.size hn6 ?_
      intro ao3 cap3 w3 HO3 HG3 HN3 _
      have hbb : Below wy.heap.size wy w3 := HBA.out.grown HG3.out HBA.out.size (fun k hk => by cases hk; first | exact Nat.le_refl _ | exact Nat.le_succ _)
      refine HK.out _ _ (fun _ => hbb) ?_
      clear HK K
      try simp only [Act.put, List.setIfInBounds_toArray, List.set_cons_zero, List.set_cons_succ]
      have HBB := Hid.in hbb
      have HKB : Hid (∀ k, oblk ao3 = some k → wy.heap.size ≤ k) := Hid.in (fun k hk => (HO3.out.blk k hk).1)
      clear hbb HN3 HG3
      refine wpBut_one (i := 14) rfl (by kernel_rfl) (fun K HK => ?_)
      go_simp
      refine HK.out _ _ (fun _ => bstep HBB.out (Nat.le_refl _) (below_alloc _ _)) ?_
      clear HK K
      have HBC : Hid (Below wy.heap.size wy (w3.alloc (.cells #[.int .i64 (x : Int), .int .u32 v] 90))) := Hid.in (bstep HBB.out (Nat.le_refl _) (below_alloc _ _))
      have hrc : Rows' 2 (w3.alloc (.cells #[.int .i64 (x : Int), .int .u32 v] 90)) (some ⟨w3.heap.size, 0, none⟩) 1 [wc ((x : Int), v)] := Rows'.lit 2 w3 90 (wc ((x : Int), v)) _ rfl rfl (wc_one _)
      have HRC := Hid.in hrc
      clear hrc
      have HCL : Hid (w3.heap.size < (w3.alloc (.cells #[.int .i64 (x : Int), .int .u32 v] 90)).heap.size) := Hid.in (by simp)
      have HOC := Hid.in (HO3.out.step (below_alloc w3 (.cells #[.int .i64 (x : Int), .int .u32 v] 90)))
      refine wpBut_one (i := 15) rfl (by kernel_rfl) (fun K HK => ?_)
      have HO4 : Hid (OwnA 90 2 (w3.alloc (.cells #[.int .i64 (x : Int), .int .u32 v] 90)) wy.heap.size ao3 nL cap3 (L.map wc)) := Hid.in (by have h := HOC.out; rwa [Nat.zero_add, List.nil_append] at h)
      refine step_concatA rfl 59 90 2 16 _ (.tmp 78) (.tmp 84) rfl Tryd.underlying59 Tryd.infoRW rfl (by decide) (by decide) wy.heap.size ao3 (some ⟨w3.heap.size, 0, none⟩) nL cap3 1 1 (L.map wc) [wc ((x : Int), v)] (by simp [Act.eval]) HO4.out rfl rfl HRC.out HBC.out.size hn7 ?_
      intro ao5 cap5 w5 HO5 HG5 HN5 _
      have HB5 : Hid (Below wy.heap.size wy w5) := Hid.in (HBC.out.grown HG5.out HBC.out.size HKB.out)
      refine HK.out _ _ (fun _ => HB5.out) ?_
      clear HK K HS
      try simp only [Act.put, List.setIfInBounds_toArray, List.set_cons_zero, List.set_cons_succ]
      have HS := HB5
      refine wpBut_take (i := 16) (v := ?_) rfl (by kernel_rfl) (by kernel_rfl) (by exact fun _ _ _ h => h) HS.out (Or.inl ⟨by rfl, ?_⟩) ?_
      case refine_2 => (intro W hSw; go_simp; try with_reducible rfl)
      try simp only [Act.put, List.setIfInBounds_toArray, List.set_cons_zero, List.set_cons_succ]
      refine wpBut_one (i := 17) rfl (by kernel_rfl) (fun K HK => ?_)
      have t1 := (HB5.out.cell (p := ⟨bb, o + m, none⟩) hbz).trans K1
      have tf : w5.frozen? ⟨bb, o + m, none⟩ = false := by rw [← KF]; have := HB5.out.block bb hbz; simp only [World.frozen?, this]
      go_simp
      refine HK.out _ _ (fun h => absurd rfl h) ?_
      clear HK K
      refine wpBut_done (by kernel_rfl) ?_ _
      have HO6 : Hid (OwnA 90 2 w5 0 ao5 (L ++ [((x : Int), v)]).length cap5 ((L ++ [((x : Int), v)]).map wc)) := Hid.in (by rw [List.length_append, List.length_singleton, HNL.out, List.map_append]; exact HO5.out.low (Nat.zero_le _))
      obtain ⟨S2, hT2⟩ := HROW.out w5 ao5 cap5 (L ++ [((x : Int), v)]) (bstep HBY.out (Nat.le_refl _) HB5.out) HO6.out (fun k hk => .inr (Nat.le_trans HBY.out.size (HO5.out.blk k hk).1)) (by rw [List.length_append, List.length_singleton, HNL.out]; omega)
      rw [List.length_append, List.length_singleton, HNL.out] at hT2
      have HFIN := Hid.in (hT2.after HB.out)
      clear hT2 t1 tf HO6 HO5 HG5 HN5
      go_wp2
      go_ret
      refine ⟨rfl, S2, ?_⟩
      simp only [doA, doM, show ¬ ((2 : Int) = 3) by decide, show ¬ ((2 : Int) = 4) by decide, if_false, if_true, false_and, Int.toNat_natCast, HL.out]
      exact HFIN.out
    · go_simp
      refine HK.out _ _ (fun _ => bstep HBA.out (Nat.le_refl _) (below_alloc _ _)) ?_
      clear HK K
      have HBC : Hid (Below wy.heap.size wy ((wy.drew.alloc (.cells #[] 90)).alloc (.cells #[.int .i64 (x : Int), .int .u32 v] 90))) := Hid.in (bstep HBA.out (Nat.le_refl _) (below_alloc _ _))
      have hrc : Rows' 2 ((wy.drew.alloc (.cells #[] 90)).alloc (.cells #[.int .i64 (x : Int), .int .u32 v] 90)) (some ⟨(wy.drew.alloc (.cells #[] 90)).heap.size, 0, none⟩) 1 [wc ((x : Int), v)] := Rows'.lit 2 (wy.drew.alloc (.cells #[] 90)) 90 (wc ((x : Int), v)) _ rfl rfl (wc_one _)
      have esz : (wy.drew.alloc (.cells #[] 90)).heap.size = wy.heap.size + 1 := by simp
      rw [esz] at hrc
      clear esz
      have HRC := Hid.in hrc
      clear hrc
      have HCL : Hid (wy.heap.size + 1 < ((wy.drew.alloc (.cells #[] 90)).alloc (.cells #[.int .i64 (x : Int), .int .u32 v] 90)).heap.size) := Hid.in (by simp)
      have HOC := Hid.in (HOA.out.step (below_alloc (wy.drew.alloc (.cells #[] 90)) (.cells #[.int .i64 (x : Int), .int .u32 v] 90)))
      refine wpBut_one (i := 8) rfl (by kernel_rfl) (fun K HK => ?_)
      refine step_concatA rfl 59 90 2 16 _ (.tmp 76) (.tmp 77) rfl Tryd.underlying59 Tryd.infoRW rfl (by decide) (by decide) wy.heap.size (some ⟨wy.heap.size, 0, none⟩) ao 0 0 nL cap [] (L.map wc) rfl HOC.out rfl HLN.out (HRL.out.step (bstep HBY.out (Nat.le_refl _) HBC.out)) HBC.out.size hn6 ?_
      intro ao3 cap3 w3 HO3 HG3 HN3 _
      have hbb : Below wy.heap.size wy w3 := HBC.out.grown HG3.out HBC.out.size (fun k hk => by cases hk; first | exact Nat.le_refl _ | exact Nat.le_succ _)
      refine HK.out _ _ (fun _ => hbb) ?_
      clear HK K
      try simp only [Act.put, List.setIfInBounds_toArray, List.set_cons_zero, List.set_cons_succ]
      have HBB := Hid.in hbb
      have HRB := Hid.in (Rows'.kept HRC.out HG3.out (by simp only [oblk, Option.map_some, ne_eq, Option.some.injEq]; omega) (by first | (exact HCL.out) | (simp; done) | (simp; omega)))
      have HKB : Hid (∀ k, oblk ao3 = some k → wy.heap.size ≤ k) := Hid.in (fun k hk => (HO3.out.blk k hk).1)
      clear hbb HN3 HG3
      refine wpBut_one (i := 15) rfl (by kernel_rfl) (fun K HK => ?_)
      have HO4 : Hid (OwnA 90 2 w3 wy.heap.size ao3 nL cap3 (L.map wc)) := Hid.in (by have h := HO3.out; rwa [Nat.zero_add, List.nil_append] at h)
      refine step_concatA rfl 59 90 2 16 _ (.tmp 78) (.tmp 84) rfl Tryd.underlying59 Tryd.infoRW rfl (by decide) (by decide) wy.heap.size ao3 (some ⟨wy.heap.size + 1, 0, none⟩) nL cap3 1 1 (L.map wc) [wc ((x : Int), v)] (by simp [Act.eval]) HO4.out rfl rfl HRB.out HBB.out.size hn7 ?_
      intro ao5 cap5 w5 HO5 HG5 HN5 _
      have HB5 : Hid (Below wy.heap.size wy w5) := Hid.in (HBB.out.grown HG5.out HBB.out.size HKB.out)
      refine HK.out _ _ (fun _ => HB5.out) ?_
      clear HK K HS
      try simp only [Act.put, List.setIfInBounds_toArray, List.set_cons_zero, List.set_cons_succ]
      have HS := HB5
      refine wpBut_take (i := 16) (v := ?_) rfl (by kernel_rfl) (by kernel_rfl) (by exact fun _ _ _ h => h) HS.out (Or.inl ⟨by rfl, ?_⟩) ?_
      case refine_2 => (intro W hSw; go_simp; try with_reducible rfl)
      try simp only [Act.put, List.setIfInBounds_toArray, List.set_cons_zero, List.set_cons_succ]
      refine wpBut_one (i := 17) rfl (by kernel_rfl) (fun K HK => ?_)
      have t1 := (HB5.out.cell (p := ⟨bb, o + m, none⟩) hbz).trans K1
      have tf : w5.frozen? ⟨bb, o + m, none⟩ = false := by rw [← KF]; have := HB5.out.block bb hbz; simp only [World.frozen?, this]
      go_simp
      refine HK.out _ _ (fun h => absurd rfl h) ?_
      clear HK K
      refine wpBut_done (by kernel_rfl) ?_ _
      have HO6 : Hid (OwnA 90 2 w5 0 ao5 (L ++ [((x : Int), v)]).length cap5 ((L ++ [((x : Int), v)]).map wc)) := Hid.in (by rw [List.length_append, List.length_singleton, HNL.out, List.map_append]; exact HO5.out.low (Nat.zero_le _))
      obtain ⟨S2, hT2⟩ := HROW.out w5 ao5 cap5 (L ++ [((x : Int), v)]) (bstep HBY.out (Nat.le_refl _) HB5.out) HO6.out (fun k hk => .inr (Nat.le_trans HBY.out.size (HO5.out.blk k hk).1)) (by rw [List.length_append, List.length_singleton, HNL.out]; omega)
      rw [List.length_append, List.length_singleton, HNL.out] at hT2
      have HFIN := Hid.in (hT2.after HB.out)
      clear hT2 t1 tf HO6 HO5 HG5 HN5
      go_wp2
      go_ret
      refine ⟨rfl, S2, ?_⟩
      simp only [doA, doM, show ¬ ((2 : Int) = 3) by decide, show ¬ ((2 : Int) = 4) by decide, if_false, if_true, false_and, Int.toNat_natCast, HL.out]
      exact HFIN.out
  · go_simp
    refine HK.out _ _ (fun _ => bstep HS.out (Nat.le_refl _) (below_alloc _ _)) ?_
    clear HK K
    have HBC : Hid (Below wy.heap.size wy (wy.drew.alloc (.cells #[.int .i64 (x : Int), .int .u32 v] 90))) := Hid.in (bstep HS.out (Nat.le_refl _) (below_alloc _ _))
    have hrc : Rows' 2 (wy.drew.alloc (.cells #[.int .i64 (x : Int), .int .u32 v] 90)) (some ⟨wy.drew.heap.size, 0, none⟩) 1 [wc ((x : Int), v)] := Rows'.lit 2 wy.drew 90 (wc ((x : Int), v)) _ rfl rfl (wc_one _)
    have esz : wy.drew.heap.size = wy.heap.size := by simp
    rw [esz] at hrc
    clear esz
    have HRC := Hid.in hrc
    clear hrc
    have HCL : Hid (wy.heap.size < (wy.drew.alloc (.cells #[.int .i64 (x : Int), .int .u32 v] 90)).heap.size) := Hid.in (by simp)
    refine wpBut_one (i := 6) rfl (by kernel_rfl) (fun K HK => ?_)
    go_simp
    refine HK.out _ _ (fun _ => bstep HBC.out (Nat.le_refl _) (below_alloc _ _)) ?_
    clear HK K
    have HBA : Hid (Below wy.heap.size wy ((wy.drew.alloc (.cells #[.int .i64 (x : Int), .int .u32 v] 90)).alloc (.cells #[] 90))) := Hid.in (bstep HBC.out (Nat.le_refl _) (below_alloc _ _))
    have hoa : OwnA 90 2 ((wy.drew.alloc (.cells #[.int .i64 (x : Int), .int .u32 v] 90)).alloc (.cells #[] 90)) wy.heap.size (some ⟨(wy.drew.alloc (.cells #[.int .i64 (x : Int), .int .u32 v] 90)).heap.size, 0, none⟩) 0 0 [] := OwnA.empty _ _ _ _ HBC.out.size
    have esz : (wy.drew.alloc (.cells #[.int .i64 (x : Int), .int .u32 v] 90)).heap.size = wy.heap.size + 1 := by simp
    rw [esz] at hoa
    clear esz
    have HOA := Hid.in hoa
    clear hoa
    have HRA : Hid (Rows' 2 ((wy.drew.alloc (.cells #[.int .i64 (x : Int), .int .u32 v] 90)).alloc (.cells #[] 90)) (some ⟨wy.heap.size, 0, none⟩) 1 [wc ((x : Int), v)]) := Hid.in (HRC.out.step (below_alloc _ _))
    refine wpBut_one (i := 8) rfl (by kernel_rfl) (fun K HK => ?_)
    refine step_concatA rfl 59 90 2 16 _ (.tmp 76) (.tmp 77) rfl Tryd.underlying59 Tryd.infoRW rfl (by decide) (by decide) wy.heap.size (some ⟨wy.heap.size + 1, 0, none⟩) ao 0 0 nL cap [] (L.map wc) rfl HOA.out rfl HLN.out (HRL.out.step (bstep HBY.out (Nat.le_refl _) HBA.out)) HBA.out.size hn6 ?_
    intro ao3 cap3 w3 HO3 HG3 HN3 _
    have hbb : Below wy.heap.size wy w3 := HBA.out.grown HG3.out HBA.out.size (fun k hk => by cases hk; first | exact Nat.le_refl _ | exact Nat.le_succ _)
    refine HK.out _ _ (fun _ => hbb) ?_
    clear HK K
    try simp only [Act.put, List.setIfInBounds_toArray, List.set_cons_zero, List.set_cons_succ]
    have HBB := Hid.in hbb
    have HRB := Hid.in (Rows'.kept HRA.out HG3.out (by simp only [oblk, Option.map_some, ne_eq, Option.some.injEq]; omega) (by first | (exact HCL.out) | (simp; done) | (simp; omega)))
    have HKB : Hid (∀ k, oblk ao3 = some k → wy.heap.size ≤ k) := Hid.in (fun k hk => (HO3.out.blk k hk).1)
    clear hbb HN3 HG3
    refine wpBut_one (i := 15) rfl (by kernel_rfl) (fun K HK => ?_)
    have HO4 : Hid (OwnA 90 2 w3 wy.heap.size ao3 nL cap3 (L.map wc)) := Hid.in (by have h := HO3.out; rwa [Nat.zero_add, List.nil_append] at h)
    refine step_concatA rfl 59 90 2 16 _ (.tmp 78) (.tmp 84) rfl Tryd.underlying59 Tryd.infoRW rfl (by decide) (by decide) wy.heap.size ao3 (some ⟨wy.heap.size, 0, none⟩) nL cap3 1 1 (L.map wc) [wc ((x : Int), v)] (by simp [Act.eval]) HO4.out rfl rfl HRB.out HBB.out.size hn7 ?_
    intro ao5 cap5 w5 HO5 HG5 HN5 _
    have HB5 : Hid (Below wy.heap.size wy w5) := Hid.in (HBB.out.grown HG5.out HBB.out.size HKB.out)
    refine HK.out _ _ (fun _ => HB5.out) ?_
    clear HK K HS
    try simp only [Act.put, List.setIfInBounds_toArray, List.set_cons_zero, List.set_cons_succ]
    have HS := HB5
    refine wpBut_take (i := 16) (v := ?_) rfl (by kernel_rfl) (by kernel_rfl) (by exact fun _ _ _ h => h) HS.out (Or.inl ⟨by rfl, ?_⟩) ?_
    case refine_2 => (intro W hSw; go_simp; try with_reducible rfl)
    try simp only [Act.put, List.setIfInBounds_toArray, List.set_cons_zero, List.set_cons_succ]
    refine wpBut_one (i := 17) rfl (by kernel_rfl) (fun K HK => ?_)
    have t1 := (HB5.out.cell (p := ⟨bb, o + m, none⟩) hbz).trans K1
    have tf : w5.frozen? ⟨bb, o + m, none⟩ = false := by rw [← KF]; have := HB5.out.block bb hbz; simp only [World.frozen?, this]
    go_simp
    refine HK.out _ _ (fun h => absurd rfl h) ?_
    clear HK K
    refine wpBut_done (by kernel_rfl) ?_ _
    have HO6 : Hid (OwnA 90 2 w5 0 ao5 (L ++ [((x : Int), v)]).length cap5 ((L ++ [((x : Int), v)]).map wc)) := Hid.in (by rw [List.length_append, List.length_singleton, HNL.out, List.map_append]; exact HO5.out.low (Nat.zero_le _))
    obtain ⟨S2, hT2⟩ := HROW.out w5 ao5 cap5 (L ++ [((x : Int), v)]) (bstep HBY.out (Nat.le_refl _) HB5.out) HO6.out (fun k hk => .inr (Nat.le_trans HBY.out.size (HO5.out.blk k hk).1)) (by rw [List.length_append, List.length_singleton, HNL.out]; omega)
    rw [List.length_append, List.length_singleton, HNL.out] at hT2
    have HFIN := Hid.in (hT2.after HB.out)
    clear hT2 t1 tf HO6 HO5 HG5 HN5
    go_wp2
    go_ret
    refine ⟨rfl, S2, ?_⟩
    simp only [doA, doM, show ¬ ((2 : Int) = 3) by decide, show ¬ ((2 : Int) = 4) by decide, if_false, if_true, false_and, Int.toNat_natCast, HL.out]
    exact HFIN.out
end Go.Proofs.YtncgjclehplfeaaDoor

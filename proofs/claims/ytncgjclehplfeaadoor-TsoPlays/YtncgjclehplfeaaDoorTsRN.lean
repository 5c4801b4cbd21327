/- DERIVED of the program: New of the document's own model by its contract. Own work. -/
import Derived.Test.YtncgjclehplfeaaDoorTsR
namespace Go.Proofs.YtncgjclehplfeaaDoor
open Go.RowKit Go.Extern.Stop Go.Stop Go.Extern

theorem Tryd.infoRS : (Tryd.prog.info? 59).map (fun i => (i.zero, i.size, i.bytes)) = some (some (.slice none 0 0), 1, 24) := by kernel_rfl
set_option maxHeartbeats 12800000 in
set_option maxRecDepth 20000 in
theorem rtnew_c (w : World) (nA nM : Nat) (h1 : 1 ≤ nA) (h2 : nA ≤ 64) (h3 : 1 ≤ nM) (h4 : nM ≤ 128) :
    Calls Tryd.prog 16 #[.int .i64 (nA : Int), .int .i64 (nM : Int)] w fun r w' => ∃ q S, r = .returned (.tuple #[.pointer (some ⟨q, 0, none⟩), .int .i64 0]) ∧ RM w' q S 0 (List.replicate nA []) (List.replicate nM 0) ∧ Below w.heap.size w w' ∧ ∀ k ∈ S, w.heap.size ≤ k := by
  have hA6 : nA ≤ 1000000 := by omega
  have hM6 : nM ≤ 1000000 := by omega
  have i1 : ¬ (nA : Int) < 1 := by omega
  have i2 : ¬ (64 : Int) < (nA : Int) := by omega
  have i3 : ¬ (nM : Int) < 1 := by omega
  have i4 : ¬ (128 : Int) < (nM : Int) := by omega
  go_enter Tryd.func16, Tryd.ntmps16
  go_upto_region 3 with fail
  go_cut [4, 5] (fun x y wx => ∃ q S, x = .pointer (some ⟨q, 0, none⟩) ∧ y = .int .i64 0 ∧ RM wx q S 0 (List.replicate nA []) (List.replicate nM 0) ∧ Below w.heap.size w wx ∧ ∀ k ∈ S, w.heap.size ≤ k)
  case first =>
    refine wp_region_but (fun _ => True) 7 (by kernel_rfl) ?_
    have HS : Hid True := Hid.in trivial
    refine wpBut_take (i := 0) (v := ?_) rfl (by kernel_rfl) (by kernel_rfl) (by exact fun _ _ _ h => h) HS.out (Or.inl ⟨by rfl, ?_⟩) ?_
    case refine_2 => (intro w _; go_simp; try with_reducible rfl)
    simp only [Act.put, List.setIfInBounds_toArray, List.set_cons_zero, List.set_cons_succ]
    refine wpBut_take (i := 2) (v := ?_) rfl (by kernel_rfl) (by kernel_rfl) (by exact fun _ _ _ h => h) HS.out (Or.inl ⟨by rfl, ?_⟩) ?_
    case refine_2 => (intro w _; go_simp; try with_reducible rfl)
    simp only [Act.put, List.setIfInBounds_toArray, List.set_cons_zero, List.set_cons_succ]
    refine wpBut_two (i := 1) (j := 3) rfl rfl (by kernel_rfl) (fun K HK => ?_) (fun K HK => ?_)
    · refine step_make rfl (.tmp 20) 54 59 rfl 1 24 _ Tryd.underlying54 Tryd.infoRS rfl (by decide) (by decide) (nA : Int) nA 0 (by rfl) rfl hA6 (Nat.zero_le _) ?_
      intro w1 hO1 hB1 hZ1
      refine HK.out _ _ (fun _ => trivial) ?_
      clear HK K
      try simp only [Act.put, List.setIfInBounds_toArray, List.set_cons_zero, List.set_cons_succ]
      refine wpBut_one (i := 3) rfl (by kernel_rfl) (fun K HK => ?_)
      refine step_make rfl (.tmp 22) 27 22 rfl 1 4 _ Tryd.underlying27 Tryd.infoU32 rfl (by decide) (by decide) (nM : Int) nM 0 (by rfl) rfl hM6 (Nat.zero_le _) ?_
      intro w2 hO2 hB2 hZ2
      refine HK.out _ _ (fun _ => trivial) ?_
      clear HK K
      try simp only [Act.put, List.setIfInBounds_toArray, List.set_cons_zero, List.set_cons_succ]
      refine wpBut_take (i := 4) (v := ?_) rfl (by kernel_rfl) (by kernel_rfl) (by exact fun _ _ _ h => h) HS.out (Or.inl ⟨by rfl, ?_⟩) ?_
      case refine_2 => (intro w _; go_simp; try with_reducible rfl)
      simp only [Act.put, List.setIfInBounds_toArray, List.set_cons_zero, List.set_cons_succ]
      refine wpBut_one (i := 5) rfl (by kernel_rfl) (fun K HK => ?_)
      go_simp
      refine HK.out _ _ (fun _ => trivial) ?_
      clear HK K
      try simp only [Act.put, List.setIfInBounds_toArray, List.set_cons_zero, List.set_cons_succ]
      refine wpBut_take (i := 6) (v := ?_) rfl (by kernel_rfl) (by kernel_rfl) (by exact fun _ _ _ h => h) HS.out (Or.inl ⟨by rfl, ?_⟩) ?_
      case refine_2 => (intro w _; go_simp; try with_reducible rfl)
      simp only [Act.put, List.setIfInBounds_toArray, List.set_cons_zero, List.set_cons_succ]
      refine wpBut_one (i := 7) rfl (by kernel_rfl) (fun K HK => ?_)
      go_simp
      refine HK.out _ _ (fun h => absurd rfl h) ?_
      clear HK K
      refine wpBut_done (by kernel_rfl) ?_ _
      have z1 : w1.heap.size = w.heap.size + 1 := hZ1.out
      have z2 := hZ2.out
      have hbx := below_alloc w2 (.cells #[.slice (some ⟨w.heap.size, 0, none⟩) nA nA, .slice (some ⟨w1.heap.size, 0, none⟩) nM nM] 56)
      have hb1 : Below w.heap.size w w1 := bstep (Below.refl _ _).drew (Nat.le_refl _) hB1.out
      have hb2 := bstep hb1 (Nat.le_refl _) hB2.out
      have hb3 := bstep hb2 (Nat.le_refl _) hbx
      have o1 := (hO1.out.step hB2.out).step hbx
      have o2 := hO2.out.step hbx
      have o3 : OwnA 22 1 (w2.alloc (.cells #[.slice (some ⟨w.heap.size, 0, none⟩) nA nA, .slice (some ⟨w1.heap.size, 0, none⟩) nM nM] 56)) 0 (some ⟨w1.heap.size, 0, none⟩) nM nM (List.replicate nM (uc 0)) := o2
      have o4 : OwnA 59 1 (w2.alloc (.cells #[.slice (some ⟨w.heap.size, 0, none⟩) nA nA, .slice (some ⟨w1.heap.size, 0, none⟩) nM nM] 56)) 0 (some ⟨w.heap.size, 0, none⟩) nA nA (List.replicate nA (rc cr0)) := o1
      have hm := Mdl.fresh (h := shR) (q := w2.heap.size) (heap_alloc_new _ _) o4 o3 (by omega) (by omega) (by omega)
      have HRM : Hid (RM (w2.alloc (.cells #[.slice (some ⟨w.heap.size, 0, none⟩) nA nA, .slice (some ⟨w1.heap.size, 0, none⟩) nM nM] 56)) w2.heap.size _ 0 (List.replicate nA []) (List.replicate nM 0)) := Hid.in ⟨⟨_, _, hm, by rw [rep_map], rfl⟩, fun l hl => by rw [List.eq_of_mem_replicate hl]; exact Nat.le_refl _, by simpa using h2, by simpa using h4⟩
      have HB3 := Hid.in hb3
      have HFM := Hid.in (fresh_mem (nA := nA) (nM := nM) (lo := w.heap.size) (q := w2.heap.size) (b1 := w.heap.size) (b2 := w1.heap.size) (by omega) (by omega) (by omega))
      clear z1 z2 hbx hb1 hb2 hb3 o1 o2 o3 o4 hm
      go_wp2_with fail
      go_meet
      case rel => exact ⟨_, _, rfl, rfl, HRM.out, HB3.out, HFM.out⟩
    · refine step_make rfl (.tmp 22) 27 22 rfl 1 4 _ Tryd.underlying27 Tryd.infoU32 rfl (by decide) (by decide) (nM : Int) nM 0 (by rfl) rfl hM6 (Nat.zero_le _) ?_
      intro w1 hO1 hB1 hZ1
      refine HK.out _ _ (fun _ => trivial) ?_
      clear HK K
      try simp only [Act.put, List.setIfInBounds_toArray, List.set_cons_zero, List.set_cons_succ]
      refine wpBut_one (i := 1) rfl (by kernel_rfl) (fun K HK => ?_)
      refine step_make rfl (.tmp 20) 54 59 rfl 1 24 _ Tryd.underlying54 Tryd.infoRS rfl (by decide) (by decide) (nA : Int) nA 0 (by rfl) rfl hA6 (Nat.zero_le _) ?_
      intro w2 hO2 hB2 hZ2
      refine HK.out _ _ (fun _ => trivial) ?_
      clear HK K
      try simp only [Act.put, List.setIfInBounds_toArray, List.set_cons_zero, List.set_cons_succ]
      refine wpBut_take (i := 4) (v := ?_) rfl (by kernel_rfl) (by kernel_rfl) (by exact fun _ _ _ h => h) HS.out (Or.inl ⟨by rfl, ?_⟩) ?_
      case refine_2 => (intro w _; go_simp; try with_reducible rfl)
      simp only [Act.put, List.setIfInBounds_toArray, List.set_cons_zero, List.set_cons_succ]
      refine wpBut_one (i := 5) rfl (by kernel_rfl) (fun K HK => ?_)
      go_simp
      refine HK.out _ _ (fun _ => trivial) ?_
      clear HK K
      try simp only [Act.put, List.setIfInBounds_toArray, List.set_cons_zero, List.set_cons_succ]
      refine wpBut_take (i := 6) (v := ?_) rfl (by kernel_rfl) (by kernel_rfl) (by exact fun _ _ _ h => h) HS.out (Or.inl ⟨by rfl, ?_⟩) ?_
      case refine_2 => (intro w _; go_simp; try with_reducible rfl)
      simp only [Act.put, List.setIfInBounds_toArray, List.set_cons_zero, List.set_cons_succ]
      refine wpBut_one (i := 7) rfl (by kernel_rfl) (fun K HK => ?_)
      go_simp
      refine HK.out _ _ (fun h => absurd rfl h) ?_
      clear HK K
      refine wpBut_done (by kernel_rfl) ?_ _
      have z1 : w1.heap.size = w.heap.size + 1 := hZ1.out
      have z2 := hZ2.out
      have hbx := below_alloc w2 (.cells #[.slice (some ⟨w1.heap.size, 0, none⟩) nA nA, .slice (some ⟨w.heap.size, 0, none⟩) nM nM] 56)
      have hb1 : Below w.heap.size w w1 := bstep (Below.refl _ _).drew (Nat.le_refl _) hB1.out
      have hb2 := bstep hb1 (Nat.le_refl _) hB2.out
      have hb3 := bstep hb2 (Nat.le_refl _) hbx
      have o2 := (hO1.out.step hB2.out).step hbx
      have o1 := hO2.out.step hbx
      have o3 : OwnA 22 1 (w2.alloc (.cells #[.slice (some ⟨w1.heap.size, 0, none⟩) nA nA, .slice (some ⟨w.heap.size, 0, none⟩) nM nM] 56)) 0 (some ⟨w.heap.size, 0, none⟩) nM nM (List.replicate nM (uc 0)) := o2
      have o4 : OwnA 59 1 (w2.alloc (.cells #[.slice (some ⟨w1.heap.size, 0, none⟩) nA nA, .slice (some ⟨w.heap.size, 0, none⟩) nM nM] 56)) 0 (some ⟨w1.heap.size, 0, none⟩) nA nA (List.replicate nA (rc cr0)) := o1
      have hm := Mdl.fresh (h := shR) (q := w2.heap.size) (heap_alloc_new _ _) o4 o3 (by omega) (by omega) (by omega)
      have HRM : Hid (RM (w2.alloc (.cells #[.slice (some ⟨w1.heap.size, 0, none⟩) nA nA, .slice (some ⟨w.heap.size, 0, none⟩) nM nM] 56)) w2.heap.size _ 0 (List.replicate nA []) (List.replicate nM 0)) := Hid.in ⟨⟨_, _, hm, by rw [rep_map], rfl⟩, fun l hl => by rw [List.eq_of_mem_replicate hl]; exact Nat.le_refl _, by simpa using h2, by simpa using h4⟩
      have HB3 := Hid.in hb3
      have HFM := Hid.in (fresh_mem (nA := nA) (nM := nM) (lo := w.heap.size) (q := w2.heap.size) (b1 := w1.heap.size) (b2 := w.heap.size) (by omega) (by omega) (by omega))
      clear z1 z2 hbx hb1 hb2 hb3 o1 o2 o3 o4 hm
      go_wp2_with fail
      go_meet
      case rel => exact ⟨_, _, rfl, rfl, HRM.out, HB3.out, HFM.out⟩
  case rest =>
    obtain ⟨q, S, rfl, rfl, hR, hb, hs⟩ := hcut
    go_wp2
    go_ret2
    exact ⟨q, rfl, S, hR, hb, hs⟩
theorem rtnew_no (w : World) (c n : Int) (h : ¬ ((1 ≤ c ∧ c ≤ 64) ∧ 1 ≤ n ∧ n ≤ 128)) :
    Calls Tryd.prog 16 #[.int .i64 c, .int .i64 n] w fun r w' => r = .returned (.tuple #[.pointer none, .int .i64 1]) ∧ w' = w := by
  by_cases h1 : c < 1
  · go_enter Tryd.func16, Tryd.ntmps16
    go_wp2
    go_ret2
    exact ⟨rfl, rfl⟩
  by_cases h2 : 64 < c
  · go_enter Tryd.func16, Tryd.ntmps16
    go_wp2
    go_ret2
    exact ⟨rfl, rfl⟩
  by_cases h3 : n < 1
  · go_enter Tryd.func16, Tryd.ntmps16
    go_wp2
    go_ret2
    exact ⟨rfl, rfl⟩
  have h4 : 128 < n := by omega
  go_enter Tryd.func16, Tryd.ntmps16
  go_wp2
  go_ret2
  exact ⟨rfl, rfl⟩
end Go.Proofs.YtncgjclehplfeaaDoor

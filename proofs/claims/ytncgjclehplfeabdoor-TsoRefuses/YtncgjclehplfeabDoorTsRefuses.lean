/- DERIVED of the program: TsoRefuses returns true. Own work. -/
import Derived.Test.YtncgjclehplfeabDoorTsS
import Derived.Test.YtncgjclehplfeabDoorTsK
import Derived.Test.YtncgjclehplfeabDoorGenW
namespace Go.Proofs.YtncgjclehplfeabDoor
open Go.RowKit Go.Extern.Stop Go.Stop Go.Extern

set_option maxHeartbeats 6400000 in
set_option maxRecDepth 20000 in
theorem tsoRefuses_any (w : World) (sa : Nat → Addr) (hE : Env10 w sa) (ao : Option Addr) (n cap : Nat) (hI : EvsW w ao n) (k c a v z : Int) (d : Bool) :
    Calls Tryd.prog 6 #[.slice ao n cap, evv k c a v z d] w fun r w' => r = .returned (.bool true) ∧ Below w.heap.size w w' := by
  obtain ⟨wb, hwb⟩ : ∃ wb, w.alloc (.cells #[.int .i64 k, .int .i64 c, .int .i64 a, .int .u32 v, .int .u32 z, .bool d] 31) = wb := ⟨_, rfl⟩
  have hb0 : Below w.heap.size w wb := by rw [← hwb]; exact below_alloc _ _
  have hq0 : wb.heap[w.heap.size]? = some (.cells #[.int .i64 k, .int .i64 c, .int .i64 a, .int .u32 v, .int .u32 z, .bool d] 31 (0, 0)) := by rw [← hwb]; exact heap_alloc_new _ _
  have HE : Hid (Env10 wb sa) := Hid.in (hE.below hb0)
  have HI := Hid.in hI
  have HB0 := Hid.in hb0
  have HQ0 := Hid.in hq0
  have HWB := Hid.in hwb
  clear hE hI hb0 hq0 hwb
  go_enter Tryd.func6, Tryd.ntmps6
  go_wp2_with fail
  rw [HWB.out]
  refine (at_new wb wb (Below.refl _ _) 2 4 (by decide) (by decide) (by decide) (by decide)).mono ?_
  rintro r w1 ⟨q, S, rfl, hA, _, _⟩
  have HA1 := Hid.in hA
  clear hA HWB
  go_wp2_with fail
  refine (two_new wb w1 q 0 S _ HA1.out 2 4 (by decide) (by decide) (by decide) (by decide)).mono ?_
  rintro r w2 ⟨p, R, rfl, hT⟩
  have HT1 := Hid.in hT
  clear hT HA1
  go_wp2
  go_loopw [9] (fun x wr => ∃ (i : Nat) (s : TS) (S R : List Nat), i ≤ n ∧ i ≤ 30 ∧ x = .int .i64 (i : Int) ∧ Two wb wr q S i s p R i s ∧ s.1.length = 2 ∧ s.2.length = 4) (fun x _ => n - (intOf x).toNat)
  case atStart => exact ⟨0, _, S, R, Nat.zero_le _, by decide, rfl, HT1.out, rfl, rfl⟩
  case round =>
    obtain ⟨i, s, Si, Ri, hi, hi30, rfl, hT, hs1, hs2⟩ := hrel
    clear HT1
    have HTi := Hid.in hT
    clear hT
    rename World => wr
    by_cases hgo : i < n ∧ i < 30
    · obtain ⟨hlt, hl30⟩ := hgo
      obtain ⟨b, o, k1, c1, a1, v1, z1, d1, rfl, x0, x1, x2, x3, x4, x5⟩ := HI.out.at i hlt
      have hbw := bstep HB0.out (Nat.le_refl _) HTi.out.a.b
      have y0 := (hbw.cell (p := ⟨b, o + i * 6, none⟩) (lt_cell x0)).trans x0
      have y1 := (hbw.cell (p := ⟨b, o + i * 6 + 1, none⟩) (lt_cell x1)).trans x1
      have y2 := (hbw.cell (p := ⟨b, o + i * 6 + 2, none⟩) (lt_cell x2)).trans x2
      have y3 := (hbw.cell (p := ⟨b, o + i * 6 + 3, none⟩) (lt_cell x3)).trans x3
      have y4 := (hbw.cell (p := ⟨b, o + i * 6 + 4, none⟩) (lt_cell x4)).trans x4
      have y5 := (hbw.cell (p := ⟨b, o + i * 6 + 5, none⟩) (lt_cell x5)).trans x5
      have i1 : (i : Int) < (n : Int) := by omega
      have i2 : (i : Int) < 30 := by omega
      obtain ⟨e', he⟩ : ∃ e', fitE s.1 s.2 ⟨k1, c1, a1, v1, z1, d1⟩ = e' := ⟨_, rfl⟩
      have HFE := Hid.in he
      clear x0 x1 x2 x3 x4 x5 hbw he
      obtain ⟨k2, c2, a2, v2, z2, d2⟩ := e'
      obtain ⟨r0, hr0⟩ : ∃ r0, refP s.1 s.2 ⟨k2, c2, a2, v2, z2, d2⟩ = r0 := ⟨_, rfl⟩
      obtain ⟨s', hs'⟩ : ∃ s', stepS s ⟨k2, c2, a2, v2, z2, d2⟩ = s' := ⟨_, rfl⟩
      have HR0 := Hid.in hr0
      have HS' := Hid.in hs'
      have HL' : Hid (s'.1.length = 2 ∧ s'.2.length = 4) := Hid.in (by rw [← hs', stepS_len1, stepS_len2]; exact ⟨hs1, hs2⟩)
      clear hr0 hs' hs1 hs2
      go_wp2_with fail
      refine (two_fit wb _ q i p i Si Ri s s HTi.out (by omega) k1 c1 a1 v1 z1 d1 _ HFE.out).mono ?_
      rintro r w3 ⟨rfl, hT⟩
      have HT3 := Hid.in hT
      clear hT HTi HFE y0 y1 y2 y3 y4 y5
      go_wp2_with fail
      have hbx := below_alloc w3 (.cells #[.int .i64 k2, .int .i64 c2, .int .i64 a2, .int .u32 v2, .int .u32 z2, .bool d2] 31)
      have HFAR : Hid (w3.heap.size ∉ Ri) := Hid.in (HT3.out.m.far (Nat.le_refl _))
      have HX0 : Hid ((w3.alloc (.cells #[.int .i64 k2, .int .i64 c2, .int .i64 a2, .int .u32 v2, .int .u32 z2, .bool d2] 31)).heap[w3.heap.size]? = some (.cells #[.int .i64 k2, .int .i64 c2, .int .i64 a2, .int .u32 v2, .int .u32 z2, .bool d2] 31 (0, 0))) := Hid.in (heap_alloc_new _ _)
      refine (two_rstep wb _ q i p i Si Ri s s s' (HT3.out.step hbx) (by omega) k2 c2 a2 v2 z2 d2 r0 HR0.out HS'.out).mono ?_
      rintro r w4 ⟨rfl, hF, R4, hT⟩
      have HT4 := Hid.in hT
      have hx4 := (hF.block w3.heap.size (by simp) HFAR.out).trans HX0.out
      have f0 := blk_cell (i := 0) hx4 rfl
      have f1 := blk_cell (i := 1) hx4 rfl
      have f2 := blk_cell (i := 2) hx4 rfl
      have f3 := blk_cell (i := 3) hx4 rfl
      have f4 := blk_cell (i := 4) hx4 rfl
      have f5 := blk_cell (i := 5) hx4 rfl
      clear hT hF hbx HT3 HFAR HX0 hx4
      by_cases h0 : r0 = 0
      · subst h0
        go_wp2_with fail
        refine (two_tstep wb _ sa HE.out q i p (i + 1) Si R4 s s' s' HT4.out (by omega) k2 c2 a2 v2 z2 d2 0 HR0.out HS'.out).mono ?_
        rintro r w5 ⟨rfl, _, S5, hT⟩
        rw [perr_none]
        have HT5 := Hid.in hT
        clear hT HT4 f0 f1 f2 f3 f4 f5
        go_wp2
        go_roundw
        case rel => exact ⟨i + 1, s', S5, R4, by omega, by omega, by go_num, HT5.out, HL'.out.1, HL'.out.2⟩
        case measure => simp [intOf]; omega
      · have e0 : ((r0 : Int) == 0) = false := by simpa using h0
        obtain rfl : s' = s := by
          have h1 := HS'.out
          rw [step_bad (by rw [HR0.out]; exact h0)] at h1
          exact h1.symm
        clear h0 f0 f1 f2 f3 f4 f5
        go_wp2
        go_roundw
        case rel => exact ⟨i + 1, s', Si, R4, by omega, by omega, by go_num, HT4.out.mono (Nat.le_succ _), HL'.out.1, HL'.out.2⟩
        case measure => simp [intOf]; omega
    · have HSL0 := Hid.in hs1
      by_cases hlt : i < n
      · have i1 : (i : Int) < (n : Int) := by omega
        have i2 : ¬ (i : Int) < 30 := by omega
        go_wp2_with fail
        refine (ttwin_c wr q i Si s.1 s.2 HTi.out.a.p (by omega)).mono ?_
        rintro r w5 ⟨t, T5, rfl, hP, hb, hs⟩
        have HP5 := Hid.in (HTi.out.a.step hb)
        have HT5 := Hid.in hP
        have HD5 : Hid (∀ k ∈ T5, k ∉ Si) := Hid.in (fun k hk hn => by have h1 := hs k hk; have h2 := HTi.out.a.p.mem k hn; omega)
        clear hP hb hs HTi
        obtain ⟨r0, hr0⟩ : ∃ r0, refP s.1 s.2 ⟨k, c, a, v, z, d⟩ = r0 := ⟨_, rfl⟩
        have HR0 := Hid.in hr0
        clear hr0
        have hq5 : w5.heap[w.heap.size]? = some (.cells #[.int .i64 k, .int .i64 c, .int .i64 a, .int .u32 v, .int .u32 z, .bool d] 31 (0, 0)) := (HP5.out.b.block _ (blk_lt HQ0.out)).trans HQ0.out
        have g0 := blk_cell (i := 0) hq5 rfl
        have g1 := blk_cell (i := 1) hq5 rfl
        have g2 := blk_cell (i := 2) hq5 rfl
        have g3 := blk_cell (i := 3) hq5 rfl
        have g4 := blk_cell (i := 4) hq5 rfl
        have g5 := blk_cell (i := 5) hq5 rfl
        clear hq5
        go_wp2_with fail
        refine (tstep_c w5 sa (HE.out.below HP5.out.b) q i Si s.1 s.2 HP5.out.p (by omega) k c a v z d r0 HR0.out).mono ?_
        rintro r w6 ⟨rfl, S6, hT⟩
        have HA6 := Hid.in (HP5.out.turned (s' := stepS s ⟨k, c, a, v, z, d⟩) hT)
        have HT6 := Hid.in (HT5.out.fr hT.f HD5.out)
        clear hT HP5 HT5 HD5 g0 g1 g2 g3 g4 g5
        by_cases h0 : r0 = 0
        · subst h0
          rw [perr_none]
          go_wp2_with fail
          refine (tsoRuns_any _ sa (HE.out.below HA6.out.b)).mono ?_
          rintro r wz ⟨rfl, hb⟩
          have HBZ := Hid.in (bstep HB0.out (Nat.le_refl _) (bstep HA6.out.b (Nat.le_refl _) hb))
          clear hb
          go_wp2
          go_ret
          exact ⟨rfl, HBZ.out⟩
        · rw [perr_some sa r0 opTStep c h0]
          have hss : stepS s ⟨k, c, a, v, z, d⟩ = s := step_bad (by rw [HR0.out]; exact h0)
          rw [hss] at HA6
          have HN : Hid (i + 1 ≤ 100000) := Hid.in (by omega)
          clear hss h0 HR0
          have HSL := Hid.in hs1
          have HSM := Hid.in hs2
          go_wp2
          go_loopw [12] (fun x wr => ∃ m : Nat, m ≤ 2 ∧ x = .int .i64 (m : Int) ∧ Below w6.heap.size w6 wr) (fun x _ => 2 - (intOf x).toNat)
          case atStart => exact ⟨0, Nat.zero_le _, rfl, Below.refl _ _⟩
          case round =>
            obtain ⟨m, hm, rfl, hb⟩ := hrel
            have HBM := Hid.in hb
            clear hb
            rename World => wm
            by_cases hlt : m < 2
            · have j1 : (m : Int) < 2 := by omega
              go_wp2
              go_loopw [13] (fun x wr => ∃ y : Nat, y ≤ 4 ∧ x = .int .i64 (y : Int) ∧ Below w6.heap.size w6 wr) (fun x _ => 4 - (intOf x).toNat)
              case atStart => exact ⟨0, Nat.zero_le _, rfl, HBM.out⟩
              case round =>
                obtain ⟨y, hy, rfl, hb⟩ := hrel
                clear HBM
                have HBY := Hid.in hb
                clear hb
                rename World => wy
                by_cases hyl : y < 4
                · have j2 : (y : Int) < 4 := by omega
                  obtain ⟨u, hu⟩ : ∃ u, rdL (s.1.getD m []) s.2 y = u := ⟨_, rfl⟩
                  have HU := Hid.in hu
                  clear hu
                  go_wp2_with fail
                  refine (tread_c wy q (i + 1) S6 s.1 s.2 (HA6.out.p.step HBY.out) HN.out m y (by rw [hs1]; exact hlt) (by rw [hs2]; exact hyl) u HU.out).mono ?_
                  rintro r w7 ⟨rfl, hb⟩
                  have HB7 := Hid.in (bstep HBY.out (Nat.le_refl _) hb)
                  clear hb HBY
                  go_wp2_with fail
                  refine (tread_c w7 t i T5 s.1 s.2 (HT6.out.step HB7.out) (by omega) m y (by rw [hs1]; exact hlt) (by rw [hs2]; exact hyl) u HU.out).mono ?_
                  rintro r w8 ⟨rfl, hb⟩
                  have HB8 := Hid.in (bstep HB7.out (Nat.le_refl _) hb)
                  clear hb HB7
                  go_wp2
                  go_roundw
                  case rel => exact ⟨y + 1, by omega, by go_num, HB8.out⟩
                  case measure => simp [intOf]; omega
                · have j2 : ¬ (y : Int) < 4 := by omega
                  obtain ⟨n1, hn1⟩ : ∃ n, (s.1.getD m []).length = n := ⟨_, rfl⟩
                  have HN1 := Hid.in hn1
                  clear hn1
                  go_wp2_with fail
                  refine (twait_c wy q (i + 1) S6 s.1 s.2 (HA6.out.p.step HBY.out) m (by rw [hs1]; exact hlt) n1 HN1.out).mono ?_
                  rintro r w7 ⟨rfl, rfl⟩
                  go_wp2_with fail
                  refine (twait_c _ t i T5 s.1 s.2 (HT6.out.step HBY.out) m (by rw [hs1]; exact hlt) n1 HN1.out).mono ?_
                  rintro r w8 ⟨rfl, rfl⟩
                  go_wp2
                  go_roundw
                  case rel => exact ⟨m + 1, by omega, by go_num, HBY.out⟩
                  case measure => simp [intOf]; omega
            · have j1 : ¬ (m : Int) < 2 := by omega
              go_wp2_with fail
              refine (tmem_c wm q (i + 1) S6 s.1 s.2 (HA6.out.p.step HBM.out)).mono ?_
              rintro r w7 ⟨a1, p1, rfl, hM, hb⟩
              have HM1 := Hid.in hM
              have HB7 := Hid.in (bstep HBM.out (Nat.le_refl _) hb)
              clear hM hb HBM
              go_wp2_with fail
              refine (tmem_c w7 t i T5 s.1 s.2 (HT6.out.step HB7.out)).mono ?_
              rintro r w8 ⟨a2, p2, rfl, hM, hb⟩
              have HM2 := Hid.in (Rows'.us hM)
              have HM1' := Hid.in (Rows'.us (HM1.out.step hb))
              have HB8 := Hid.in (bstep HB7.out (Nat.le_refl _) hb)
              clear hM hb HB7 HM1
              go_wp2_with fail
              refine (sameU_any w8 a1 a2 4 4 p1 p2 s.2 s.2 hs2 hs2 HM1'.out HM2.out (by decide) true (decide_eq_true rfl)).mono ?_
              rintro r w9 ⟨rfl, hb⟩
              have HB9 := Hid.in (bstep HA6.out.b (Nat.le_refl _) (bstep HB8.out (Nat.le_refl _) hb))
              clear hb HB8
              go_wp2_with fail
              refine (tsoRuns_any _ sa (HE.out.below HB9.out)).mono ?_
              rintro r wz ⟨rfl, hb⟩
              have HBZ := Hid.in (bstep HB0.out (Nat.le_refl _) (bstep HB9.out (Nat.le_refl _) hb))
              clear hb
              go_wp2
              go_ret
              exact ⟨rfl, HBZ.out⟩
      · have i1 : ¬ (i : Int) < (n : Int) := by omega
        go_wp2_with fail
        refine (ttwin_c wr q i Si s.1 s.2 HTi.out.a.p (by omega)).mono ?_
        rintro r w5 ⟨t, T5, rfl, hP, hb, hs⟩
        have HP5 := Hid.in (HTi.out.a.step hb)
        have HT5 := Hid.in hP
        have HD5 : Hid (∀ k ∈ T5, k ∉ Si) := Hid.in (fun k hk hn => by have h1 := hs k hk; have h2 := HTi.out.a.p.mem k hn; omega)
        clear hP hb hs HTi
        obtain ⟨r0, hr0⟩ : ∃ r0, refP s.1 s.2 ⟨k, c, a, v, z, d⟩ = r0 := ⟨_, rfl⟩
        have HR0 := Hid.in hr0
        clear hr0
        have hq5 : w5.heap[w.heap.size]? = some (.cells #[.int .i64 k, .int .i64 c, .int .i64 a, .int .u32 v, .int .u32 z, .bool d] 31 (0, 0)) := (HP5.out.b.block _ (blk_lt HQ0.out)).trans HQ0.out
        have g0 := blk_cell (i := 0) hq5 rfl
        have g1 := blk_cell (i := 1) hq5 rfl
        have g2 := blk_cell (i := 2) hq5 rfl
        have g3 := blk_cell (i := 3) hq5 rfl
        have g4 := blk_cell (i := 4) hq5 rfl
        have g5 := blk_cell (i := 5) hq5 rfl
        clear hq5
        go_wp2_with fail
        refine (tstep_c w5 sa (HE.out.below HP5.out.b) q i Si s.1 s.2 HP5.out.p (by omega) k c a v z d r0 HR0.out).mono ?_
        rintro r w6 ⟨rfl, S6, hT⟩
        have HA6 := Hid.in (HP5.out.turned (s' := stepS s ⟨k, c, a, v, z, d⟩) hT)
        have HT6 := Hid.in (HT5.out.fr hT.f HD5.out)
        clear hT HP5 HT5 HD5 g0 g1 g2 g3 g4 g5
        by_cases h0 : r0 = 0
        · subst h0
          rw [perr_none]
          go_wp2_with fail
          refine (tsoRuns_any _ sa (HE.out.below HA6.out.b)).mono ?_
          rintro r wz ⟨rfl, hb⟩
          have HBZ := Hid.in (bstep HB0.out (Nat.le_refl _) (bstep HA6.out.b (Nat.le_refl _) hb))
          clear hb
          go_wp2
          go_ret
          exact ⟨rfl, HBZ.out⟩
        · rw [perr_some sa r0 opTStep c h0]
          have hss : stepS s ⟨k, c, a, v, z, d⟩ = s := step_bad (by rw [HR0.out]; exact h0)
          rw [hss] at HA6
          have HN : Hid (i + 1 ≤ 100000) := Hid.in (by omega)
          clear hss h0 HR0
          have HSL := Hid.in hs1
          have HSM := Hid.in hs2
          go_wp2
          go_loopw [12] (fun x wr => ∃ m : Nat, m ≤ 2 ∧ x = .int .i64 (m : Int) ∧ Below w6.heap.size w6 wr) (fun x _ => 2 - (intOf x).toNat)
          case atStart => exact ⟨0, Nat.zero_le _, rfl, Below.refl _ _⟩
          case round =>
            obtain ⟨m, hm, rfl, hb⟩ := hrel
            have HBM := Hid.in hb
            clear hb
            rename World => wm
            by_cases hlt : m < 2
            · have j1 : (m : Int) < 2 := by omega
              go_wp2
              go_loopw [13] (fun x wr => ∃ y : Nat, y ≤ 4 ∧ x = .int .i64 (y : Int) ∧ Below w6.heap.size w6 wr) (fun x _ => 4 - (intOf x).toNat)
              case atStart => exact ⟨0, Nat.zero_le _, rfl, HBM.out⟩
              case round =>
                obtain ⟨y, hy, rfl, hb⟩ := hrel
                clear HBM
                have HBY := Hid.in hb
                clear hb
                rename World => wy
                by_cases hyl : y < 4
                · have j2 : (y : Int) < 4 := by omega
                  obtain ⟨u, hu⟩ : ∃ u, rdL (s.1.getD m []) s.2 y = u := ⟨_, rfl⟩
                  have HU := Hid.in hu
                  clear hu
                  go_wp2_with fail
                  refine (tread_c wy q (i + 1) S6 s.1 s.2 (HA6.out.p.step HBY.out) HN.out m y (by rw [hs1]; exact hlt) (by rw [hs2]; exact hyl) u HU.out).mono ?_
                  rintro r w7 ⟨rfl, hb⟩
                  have HB7 := Hid.in (bstep HBY.out (Nat.le_refl _) hb)
                  clear hb HBY
                  go_wp2_with fail
                  refine (tread_c w7 t i T5 s.1 s.2 (HT6.out.step HB7.out) (by omega) m y (by rw [hs1]; exact hlt) (by rw [hs2]; exact hyl) u HU.out).mono ?_
                  rintro r w8 ⟨rfl, hb⟩
                  have HB8 := Hid.in (bstep HB7.out (Nat.le_refl _) hb)
                  clear hb HB7
                  go_wp2
                  go_roundw
                  case rel => exact ⟨y + 1, by omega, by go_num, HB8.out⟩
                  case measure => simp [intOf]; omega
                · have j2 : ¬ (y : Int) < 4 := by omega
                  obtain ⟨n1, hn1⟩ : ∃ n, (s.1.getD m []).length = n := ⟨_, rfl⟩
                  have HN1 := Hid.in hn1
                  clear hn1
                  go_wp2_with fail
                  refine (twait_c wy q (i + 1) S6 s.1 s.2 (HA6.out.p.step HBY.out) m (by rw [hs1]; exact hlt) n1 HN1.out).mono ?_
                  rintro r w7 ⟨rfl, rfl⟩
                  go_wp2_with fail
                  refine (twait_c _ t i T5 s.1 s.2 (HT6.out.step HBY.out) m (by rw [hs1]; exact hlt) n1 HN1.out).mono ?_
                  rintro r w8 ⟨rfl, rfl⟩
                  go_wp2
                  go_roundw
                  case rel => exact ⟨m + 1, by omega, by go_num, HBY.out⟩
                  case measure => simp [intOf]; omega
            · have j1 : ¬ (m : Int) < 2 := by omega
              go_wp2_with fail
              refine (tmem_c wm q (i + 1) S6 s.1 s.2 (HA6.out.p.step HBM.out)).mono ?_
              rintro r w7 ⟨a1, p1, rfl, hM, hb⟩
              have HM1 := Hid.in hM
              have HB7 := Hid.in (bstep HBM.out (Nat.le_refl _) hb)
              clear hM hb HBM
              go_wp2_with fail
              refine (tmem_c w7 t i T5 s.1 s.2 (HT6.out.step HB7.out)).mono ?_
              rintro r w8 ⟨a2, p2, rfl, hM, hb⟩
              have HM2 := Hid.in (Rows'.us hM)
              have HM1' := Hid.in (Rows'.us (HM1.out.step hb))
              have HB8 := Hid.in (bstep HB7.out (Nat.le_refl _) hb)
              clear hM hb HB7 HM1
              go_wp2_with fail
              refine (sameU_any w8 a1 a2 4 4 p1 p2 s.2 s.2 hs2 hs2 HM1'.out HM2.out (by decide) true (decide_eq_true rfl)).mono ?_
              rintro r w9 ⟨rfl, hb⟩
              have HB9 := Hid.in (bstep HA6.out.b (Nat.le_refl _) (bstep HB8.out (Nat.le_refl _) hb))
              clear hb HB8
              go_wp2_with fail
              refine (tsoRuns_any _ sa (HE.out.below HB9.out)).mono ?_
              rintro r wz ⟨rfl, hb⟩
              have HBZ := Hid.in (bstep HB0.out (Nat.le_refl _) (bstep HB9.out (Nat.le_refl _) hb))
              clear hb
              go_wp2
              go_ret
              exact ⟨rfl, HBZ.out⟩
end Go.Proofs.YtncgjclehplfeabDoor

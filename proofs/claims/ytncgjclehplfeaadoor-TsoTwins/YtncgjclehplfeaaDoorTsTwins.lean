/- DERIVED of the program: TsoTwins returns true. Own work. -/
import Derived.Test.YtncgjclehplfeaaDoorTsTri
import Derived.Test.YtncgjclehplfeaaDoorTsK
import Derived.Test.YtncgjclehplfeaaDoorGenW
namespace Go.Proofs.YtncgjclehplfeaaDoor
open Go.RowKit Go.Extern.Stop Go.Stop Go.Extern

set_option maxHeartbeats 12800000 in
set_option maxRecDepth 20000 in
theorem tsoTwins_any (w : World) (sa : Nat → Addr) (hE : Env10 w sa) (cn : Int) (al : Option Addr) (ln capl : Nat) (hI : EvsW w al ln) (cut : Int) :
    Calls Tryd.prog 7 #[.int .i64 cn, .slice al ln capl, .int .i64 cut] w fun r w' => r = .returned (.bool true) ∧ Below w.heap.size w w' := by
  have HE := Hid.in hE
  have HI := Hid.in hI
  have hw1 := wI_le cn 1 4 (by omega)
  obtain ⟨k, hk⟩ : ∃ m : Nat, wI cn 1 4 = (m : Int) := ⟨(wI cn 1 4).toNat, by omega⟩
  have hk1 : 1 ≤ k := by omega
  have hk4 : k ≤ 4 := by omega
  have hk64 : k ≤ 64 := by omega
  have hw2 := wI_le cut 0 30 (by omega)
  obtain ⟨g, hg⟩ : ∃ m : Nat, wI cut 0 30 = (m : Int) := ⟨(wI cut 0 30).toNat, by omega⟩
  have hg30 : g ≤ 30 := by omega
  have HK := Hid.in hk
  have HG := Hid.in hg
  have HK1 := Hid.in hk1
  have HK64 := Hid.in hk64
  clear hE hI hw1 hw2 hk hg hk1 hk4 hk64
  go_enter Tryd.func7, Tryd.ntmps7
  go_wp2_with fail
  refine (within_i cn 1 4 _ (by omega) (by omega) (by omega)).mono ?_
  rw [HK.out]
  rintro r w' ⟨rfl, hww⟩
  have hw2 := hww.symm
  subst hw2
  clear hww
  go_wp2_with fail
  refine (at_new w w (Below.refl _ _) k 4 HK1.out HK64.out (by decide) (by decide)).mono ?_
  rintro r w1 ⟨q, S, rfl, hA, _, _⟩
  have HA1 := Hid.in hA
  clear hA
  go_wp2_with fail
  refine (two_new w w1 q 0 S _ HA1.out k 4 HK1.out HK64.out (by decide) (by decide)).mono ?_
  rintro r w2 ⟨p, R, rfl, hT⟩
  have HT2 := Hid.in hT
  clear hT HA1
  go_wp2_with fail
  refine (within_i cut 0 30 _ (by omega) (by omega) (by omega)).mono ?_
  rw [HG.out]
  rintro r w3 ⟨rfl, rfl⟩
  go_wp2_with fail
  refine (ttwin_c _ q 0 S _ _ HT2.out.a.p (by omega)).mono ?_
  rintro r w4 ⟨t, T, rfl, hP, hb, hs⟩
  have HT4 : Hid (Tri w w4 q S 0 (ts0 k 4) p R 0 (ts0 k 4) t T 0 (ts0 k 4) none 0 0 []) := Hid.in (Tri.made HT2.out hP hb hs)
  clear hP hb hs HT2
  go_wp2
  go_loopw [13, 14, 15] (fun x y z wr => ∃ (i : Nat) (s u : TS) (S R T : List Nat) (t : Nat) (ao : Option Addr) (n cap : Nat) (L : List Ev), i ≤ ln ∧ i ≤ 40 ∧ n ≤ i ∧ x = .pointer (some ⟨t, 0, none⟩) ∧ y = .slice ao n cap ∧ z = .int .i64 (i : Int) ∧ Tri w wr q S i s p R i s t T i u ao n cap L ∧ (g < i → u = s) ∧ runS (ts0 k 4) L = s ∧ badS (ts0 k 4) L 0 = none) (fun _ _ z _ => 40 - (intOf z).toNat)
  case atStart => exact ⟨0, ts0 k 4, ts0 k 4, S, R, T, t, none, 0, 0, [], Nat.zero_le _, by decide, by decide, rfl, rfl, rfl, HT4.out, fun _ => rfl, rfl, rfl⟩
  case round =>
    obtain ⟨i, s, u, Si, Ri, Ti, ti, ao, n, cap, L, hi, hi40, hni, rfl, rfl, rfl, hT, hu, hrun, hbad⟩ := hrel
    clear HT4
    have HTi := Hid.in hT
    have HU := Hid.in hu
    have HRUN := Hid.in hrun
    have HBAD := Hid.in hbad
    clear hT hu hrun hbad
    rename World => wr
    by_cases hgo : i < ln ∧ i < 40
    · obtain ⟨hlt, hl40⟩ := hgo
      have i1 : (i : Int) < (ln : Int) := by omega
      have i2 : (i : Int) < 40 := by omega
      go_upto_if 53 with fail
      go_cut [13] (fun x wd => ∃ (t : Nat) (T : List Nat) (u : TS), x = .pointer (some ⟨t, 0, none⟩) ∧ Tri w wd q Si i s p Ri i s t T i u ao n cap L ∧ (g ≤ i → u = s))
      case first =>
        by_cases hig : i = g
        · have e1 : ((i : Int) == (g : Int)) = true := by simp; omega
          clear hig
          go_wp2_with fail
          refine (ttwin_c wr q i Si s.1 s.2 HTi.out.two.a.p (by omega)).mono ?_
          rintro r w5 ⟨t', T', rfl, hP, hb, hs⟩
          have HT5 := Hid.in (HTi.out.twin hP hb hs)
          clear hP hb hs
          go_wp2
          go_meet
          case rel => exact ⟨t', T', s, rfl, HT5.out, fun _ => rfl⟩
        · have e1 : ((i : Int) == (g : Int)) = false := by simp; omega
          have HUG : Hid (g ≤ i → u = s) := Hid.in (fun h => HU.out (by omega))
          clear hig
          go_wp2
          go_meet
          case rel => exact ⟨ti, Ti, u, rfl, HTi.out, HUG.out⟩
      case rest =>
        obtain ⟨t5, T5, u5, rfl, hT, hug⟩ := hcut
        clear HTi HU
        have HT5 := Hid.in hT
        have HUG := Hid.in hug
        clear hT hug
        rename World => wo
        obtain ⟨b, o, k1, c1, a1, v1, z1, d1, rfl, x0, x1, x2, x3, x4, x5⟩ := HI.out.at i hlt
        have hbw := HT5.out.two.a.b
        have y0 := (hbw.cell (p := ⟨b, o + i * 6, none⟩) (lt_cell x0)).trans x0
        have y1 := (hbw.cell (p := ⟨b, o + i * 6 + 1, none⟩) (lt_cell x1)).trans x1
        have y2 := (hbw.cell (p := ⟨b, o + i * 6 + 2, none⟩) (lt_cell x2)).trans x2
        have y3 := (hbw.cell (p := ⟨b, o + i * 6 + 3, none⟩) (lt_cell x3)).trans x3
        have y4 := (hbw.cell (p := ⟨b, o + i * 6 + 4, none⟩) (lt_cell x4)).trans x4
        have y5 := (hbw.cell (p := ⟨b, o + i * 6 + 5, none⟩) (lt_cell x5)).trans x5
        obtain ⟨e', he⟩ : ∃ e', fitE s.1 s.2 ⟨k1, c1, a1, v1, z1, d1⟩ = e' := ⟨_, rfl⟩
        have HFE := Hid.in he
        clear x0 x1 x2 x3 x4 x5 hbw he
        obtain ⟨k2, c2, a2, v2, z2, d2⟩ := e'
        obtain ⟨r0, hr0⟩ : ∃ r0, refP s.1 s.2 ⟨k2, c2, a2, v2, z2, d2⟩ = r0 := ⟨_, rfl⟩
        obtain ⟨s', hs'⟩ : ∃ s', stepS s ⟨k2, c2, a2, v2, z2, d2⟩ = s' := ⟨_, rfl⟩
        have HR0 := Hid.in hr0
        have HS' := Hid.in hs'
        clear hr0 hs'
        go_wp2_with fail
        refine (fit_c wo p i Ri s.1 s.2 HT5.out.two.m (by omega) k1 c1 a1 v1 z1 d1 _ HFE.out).mono ?_
        rintro r w6 ⟨rfl, hb⟩
        have HT6 := Hid.in (HT5.out.step hb)
        clear hb HT5 HFE y0 y1 y2 y3 y4 y5
        go_wp2_with fail
        have hbx := below_alloc w6 (.cells #[.int .i64 k2, .int .i64 c2, .int .i64 a2, .int .u32 v2, .int .u32 z2, .bool d2] 24)
        obtain ⟨X, hX⟩ : ∃ X, w6.heap.size = X := ⟨_, rfl⟩
        have HX : Hid (X ∉ Si ∧ X ∉ Ri ∧ oblk ao ≠ some X) := Hid.in (by
          rw [← hX]
          exact ⟨HT6.out.two.a.p.far (Nat.le_refl _), HT6.out.two.m.far (Nat.le_refl _), fun h => by have := HT6.out.olt _ h; omega⟩)
        have HX6 : Hid ((w6.alloc (.cells #[.int .i64 k2, .int .i64 c2, .int .i64 a2, .int .u32 v2, .int .u32 z2, .bool d2] 24)).heap[X]? = some (.cells #[.int .i64 k2, .int .i64 c2, .int .i64 a2, .int .u32 v2, .int .u32 z2, .bool d2] 24 (0, 0))) := Hid.in (by rw [← hX]; exact heap_alloc_new _ _)
        refine (rstep_c _ p i Ri s.1 s.2 (HT6.out.two.m.step hbx) (by omega) k2 c2 a2 v2 z2 d2 r0 HR0.out).mono ?_
        rintro r w7 ⟨rfl, R7, hRT⟩
        have HT7 : Hid (Tri w w7 q Si i s p R7 (i + 1) s' t5 T5 i u5 ao n cap L) := Hid.in (by
          have h := (HT6.out.step hbx).rturned (s3 := stepS s ⟨k2, c2, a2, v2, z2, d2⟩) hRT
          rw [HS'.out] at h
          exact h)
        have HX7 := Hid.in ((hRT.f.block X (blk_lt HX6.out) HX.out.2.1).trans HX6.out)
        rw [hX]
        clear hRT hbx HT6 HX6 hX
        have f0 := blk_cell (i := 0) HX7.out rfl
        have f1 := blk_cell (i := 1) HX7.out rfl
        have f2 := blk_cell (i := 2) HX7.out rfl
        have f3 := blk_cell (i := 3) HX7.out rfl
        have f4 := blk_cell (i := 4) HX7.out rfl
        have f5 := blk_cell (i := 5) HX7.out rfl
        by_cases h0 : r0 = 0
        · subst h0
          go_wp2_with fail
          refine (tstep_c w7 sa (HE.out.below HT7.out.two.a.b) q i Si s.1 s.2 HT7.out.two.a.p (by omega) k2 c2 a2 v2 z2 d2 0 HR0.out).mono ?_
          rintro r w8 ⟨rfl, S8, hTT⟩
          rw [perr_none]
          have HT8 : Hid (Tri w w8 q S8 (i + 1) s' p R7 (i + 1) s' t5 T5 i u5 ao n cap L) := Hid.in (by
            have h := HT7.out.turned (s3 := stepS s ⟨k2, c2, a2, v2, z2, d2⟩) hTT
            rw [HS'.out] at h
            exact h)
          have HX8 := Hid.in ((hTT.f.block X (blk_lt HX7.out) HX.out.1).trans HX7.out)
          clear hTT HT7 HX7 f0 f1 f2 f3 f4 f5
          have g0 := blk_cell (i := 0) HX8.out rfl
          have g1 := blk_cell (i := 1) HX8.out rfl
          have g2 := blk_cell (i := 2) HX8.out rfl
          have g3 := blk_cell (i := 3) HX8.out rfl
          have g4 := blk_cell (i := 4) HX8.out rfl
          have g5 := blk_cell (i := 5) HX8.out rfl
          have HT9 := Hid.in (HT8.out.step (below_alloc w8 (.cells #[.int .i64 k2, .int .i64 c2, .int .i64 a2, .int .u32 v2, .int .u32 z2, .bool d2] 24)))
          have HR9 : Hid (RowE (w8.alloc (.cells #[.int .i64 k2, .int .i64 c2, .int .i64 a2, .int .u32 v2, .int .u32 z2, .bool d2] 24)) (some ⟨w8.heap.size, 0, none⟩) 1 [⟨k2, c2, a2, v2, z2, d2⟩]) := Hid.in (RowE.lits w8 [⟨k2, c2, a2, v2, z2, d2⟩] _ rfl)
          have HX9 := Hid.in (((below_alloc w8 (.cells #[.int .i64 k2, .int .i64 c2, .int .i64 a2, .int .u32 v2, .int .u32 z2, .bool d2] 24)).block X (blk_lt HX8.out)).trans HX8.out)
          have hn1 : n + 1 ≤ 1000000 := by omega
          clear HT8
          go_upto_region 19 with (first | (at_builtin; refine wpList_concatA rfl 26 24 6 40 _ (.tmp 74) (.tmp 76) rfl Tryd.underlying26 Tryd.infoEv rfl (by decide) (by decide) w.heap.size ao (some ⟨w8.heap.size, 0, none⟩) n cap 1 1 (L.map Ev.cs) (([⟨k2, c2, a2, v2, z2, d2⟩] : List Ev).map Ev.cs) rfl HT9.out.o rfl rfl HR9.out HT9.out.two.a.b.size hn1 ?_; intro ao9 cap9 w9 HP9 HG9 HN9 _) | fail)
          have HTA : Hid (Tri w w9 q S8 (i + 1) s' p R7 (i + 1) s' t5 T5 i u5 ao9 (n + 1) cap9 (L ++ [⟨k2, c2, a2, v2, z2, d2⟩])) := Hid.in (HT9.out.row (by rw [List.map_append]; exact HP9.out) HG9.out HN9.out)
          have HXA := Hid.in ((HG9.out.block X (blk_lt HX9.out) (fun h => HX.out.2.2 h.symm)).trans HX9.out)
          have HRUN' : Hid (runS (ts0 k 4) (L ++ [⟨k2, c2, a2, v2, z2, d2⟩]) = s') := Hid.in (by rw [runS_snoc, HRUN.out]; exact HS'.out)
          have HBAD' : Hid (badS (ts0 k 4) (L ++ [⟨k2, c2, a2, v2, z2, d2⟩]) 0 = none) := Hid.in (badS_snoc _ _ _ HBAD.out (by rw [HRUN.out]; exact HR0.out))
          clear HT9 HR9 HX9 HX8 HP9 HG9 HN9 HRUN HBAD g0 g1 g2 g3 g4 g5
          by_cases hge : g ≤ i
          · have e2 : (g : Int) ≤ (i : Int) := by omega
            obtain rfl : u5 = s := HUG.out hge
            have h0 := blk_cell (i := 0) HXA.out rfl
            have h1 := blk_cell (i := 1) HXA.out rfl
            have h2 := blk_cell (i := 2) HXA.out rfl
            have h3 := blk_cell (i := 3) HXA.out rfl
            have h4 := blk_cell (i := 4) HXA.out rfl
            have h5 := blk_cell (i := 5) HXA.out rfl
            go_wp2_with fail
            refine (tstep_c w9 sa (HE.out.below HTA.out.two.a.b) t5 i T5 u5.1 u5.2 HTA.out.tw (by omega) k2 c2 a2 v2 z2 d2 0 HR0.out).mono ?_
            rintro r wA ⟨rfl, TA, hTT⟩
            rw [perr_none]
            have HTB : Hid (Tri w wA q S8 (i + 1) s' p R7 (i + 1) s' t5 TA (i + 1) s' ao9 (n + 1) cap9 (L ++ [⟨k2, c2, a2, v2, z2, d2⟩])) := Hid.in (by
              have h := HTA.out.tturned (u' := stepS u5 ⟨k2, c2, a2, v2, z2, d2⟩) hTT
              rw [HS'.out] at h
              exact h)
            clear hTT HTA HXA h0 h1 h2 h3 h4 h5
            go_wp2
            go_roundw
            case rel => exact ⟨i + 1, s', s', S8, R7, TA, t5, ao9, n + 1, cap9, _, by omega, by omega, by omega, rfl, rfl, by go_num, HTB.out, fun _ => rfl, HRUN'.out, HBAD'.out⟩
            case measure => simp [intOf]; omega
          · have e2 : ¬ (g : Int) ≤ (i : Int) := by omega
            go_wp2
            go_roundw
            case rel => exact ⟨i + 1, s', u5, S8, R7, T5, t5, ao9, n + 1, cap9, _, by omega, by omega, by omega, rfl, rfl, by go_num, HTA.out.mono (Nat.le_refl _) (Nat.le_refl _) (Nat.le_succ _), fun h => by omega, HRUN'.out, HBAD'.out⟩
            case measure => simp [intOf]; omega
        · have e0 : ((r0 : Int) == 0) = false := by simpa using h0
          obtain rfl : s' = s := by
            have h1 := HS'.out
            rw [step_bad (by rw [HR0.out]; exact h0)] at h1
            exact h1.symm
          clear h0 f0 f1 f2 f3 f4 f5
          go_wp2
          go_roundw
          case rel => exact ⟨i + 1, s', u5, Si, R7, T5, t5, ao, n, cap, L, by omega, by omega, by omega, rfl, rfl, by go_num, HT7.out.mono (Nat.le_succ _) (Nat.le_refl _) (Nat.le_succ _), fun h => HUG.out (by omega), HRUN.out, HBAD.out⟩
          case measure => simp [intOf]; omega
    · by_cases hlt : i < ln
      · have i1 : (i : Int) < (ln : Int) := by omega
        have i2 : ¬ (i : Int) < 40 := by omega
        have HLN : Hid (L.length = n) := Hid.in (by have h := HTi.out.o.len; rwa [List.length_map] at h)
        have HRW : Hid (RowE wr ao cap L) := Hid.in (Rows'.evs HTi.out.o)
        have HM2 : Hid ((runS (ts0 k 4) L).2 = s.2) := Hid.in (by rw [HRUN.out])
        have HL2 : Hid (s.2.length = 4) := Hid.in (by rw [← HRUN.out, (runS_len L _).2]; simp)
        go_wp2_with fail
        refine (treplay_c wr sa (HE.out.below HTi.out.two.a.b) k 4 HK1.out HK64.out (by decide) (by decide) ao n cap L HLN.out (by omega) HRW.out none HBAD.out s.2 HM2.out).mono ?_
        rintro r w5 ⟨⟨a5, p5, rfl, hO⟩, hb⟩
        have HT5 := Hid.in (HTi.out.step hb)
        have HO5 := Hid.in hO
        clear hO hb HTi HRW HLN HM2
        go_wp2_with fail
        refine (tmem_c w5 q i Si s.1 s.2 HT5.out.two.a.p).mono ?_
        rw [HL2.out]
        rintro r w6 ⟨a6, p6, rfl, hM, hb⟩
        have HT6 := Hid.in (HT5.out.step hb)
        have HU6 := Hid.in (Rows'.us hM)
        have HU5 := Hid.in (Rows'.us (HO5.out.step hb))
        clear hM hb HO5 HT5
        go_wp2_with fail
        refine (sameU_any w6 a5 a6 4 4 p5 p6 s.2 s.2 HL2.out HL2.out HU5.out HU6.out (by decide) true (decide_eq_true rfl)).mono ?_
        rintro r w7 ⟨rfl, hb⟩
        have HT7 := Hid.in (HT6.out.step hb)
        clear hb HT6 HU5 HU6
        by_cases hgl : ln ≤ g
        · have e2 : (ln : Int) ≤ (g : Int) := by omega
          go_wp2_with fail
          refine (tsoRuns_any _ sa (HE.out.below HT7.out.two.a.b)).mono ?_
          rintro r wz ⟨rfl, hb⟩
          have HBZ := Hid.in (bstep HT7.out.two.a.b (Nat.le_refl _) hb)
          clear hb
          go_wp2
          go_ret
          exact ⟨rfl, HBZ.out⟩
        · have e2 : ¬ (ln : Int) ≤ (g : Int) := by omega
          have e3 : ¬ (40 : Int) ≤ (g : Int) := by omega
          obtain rfl : u = s := HU.out (by omega)
          go_wp2_with fail
          refine (tmem_c w7 ti i Ti u.1 u.2 HT7.out.tw).mono ?_
          rw [HL2.out]
          rintro r w8 ⟨a8, p8, rfl, hM, hb⟩
          have HT8 := Hid.in (HT7.out.step hb)
          have HM8 := Hid.in hM
          clear hM hb HT7
          go_wp2_with fail
          refine (tmem_c w8 q i Si u.1 u.2 HT8.out.two.a.p).mono ?_
          rw [HL2.out]
          rintro r w9 ⟨a9, p9, rfl, hM, hb⟩
          have HT9 := Hid.in (HT8.out.step hb)
          have HU9 := Hid.in (Rows'.us hM)
          have HU8 := Hid.in (Rows'.us (HM8.out.step hb))
          clear hM hb HM8 HT8
          go_wp2_with fail
          refine (sameU_any w9 a8 a9 4 4 p8 p9 u.2 u.2 HL2.out HL2.out HU8.out HU9.out (by decide) true (decide_eq_true rfl)).mono ?_
          rintro r wA ⟨rfl, hb⟩
          have HTA := Hid.in (HT9.out.step hb)
          clear hb HT9 HU8 HU9
          go_wp2_with fail
          refine (tsoRuns_any _ sa (HE.out.below HTA.out.two.a.b)).mono ?_
          rintro r wz ⟨rfl, hb⟩
          have HBZ := Hid.in (bstep HTA.out.two.a.b (Nat.le_refl _) hb)
          clear hb
          go_wp2
          go_ret
          exact ⟨rfl, HBZ.out⟩
      · have i1 : ¬ (i : Int) < (ln : Int) := by omega
        have HLN : Hid (L.length = n) := Hid.in (by have h := HTi.out.o.len; rwa [List.length_map] at h)
        have HRW : Hid (RowE wr ao cap L) := Hid.in (Rows'.evs HTi.out.o)
        have HM2 : Hid ((runS (ts0 k 4) L).2 = s.2) := Hid.in (by rw [HRUN.out])
        have HL2 : Hid (s.2.length = 4) := Hid.in (by rw [← HRUN.out, (runS_len L _).2]; simp)
        go_wp2_with fail
        refine (treplay_c wr sa (HE.out.below HTi.out.two.a.b) k 4 HK1.out HK64.out (by decide) (by decide) ao n cap L HLN.out (by omega) HRW.out none HBAD.out s.2 HM2.out).mono ?_
        rintro r w5 ⟨⟨a5, p5, rfl, hO⟩, hb⟩
        have HT5 := Hid.in (HTi.out.step hb)
        have HO5 := Hid.in hO
        clear hO hb HTi HRW HLN HM2
        go_wp2_with fail
        refine (tmem_c w5 q i Si s.1 s.2 HT5.out.two.a.p).mono ?_
        rw [HL2.out]
        rintro r w6 ⟨a6, p6, rfl, hM, hb⟩
        have HT6 := Hid.in (HT5.out.step hb)
        have HU6 := Hid.in (Rows'.us hM)
        have HU5 := Hid.in (Rows'.us (HO5.out.step hb))
        clear hM hb HO5 HT5
        go_wp2_with fail
        refine (sameU_any w6 a5 a6 4 4 p5 p6 s.2 s.2 HL2.out HL2.out HU5.out HU6.out (by decide) true (decide_eq_true rfl)).mono ?_
        rintro r w7 ⟨rfl, hb⟩
        have HT7 := Hid.in (HT6.out.step hb)
        clear hb HT6 HU5 HU6
        by_cases hgl : ln ≤ g
        · have e2 : (ln : Int) ≤ (g : Int) := by omega
          go_wp2_with fail
          refine (tsoRuns_any _ sa (HE.out.below HT7.out.two.a.b)).mono ?_
          rintro r wz ⟨rfl, hb⟩
          have HBZ := Hid.in (bstep HT7.out.two.a.b (Nat.le_refl _) hb)
          clear hb
          go_wp2
          go_ret
          exact ⟨rfl, HBZ.out⟩
        · have e2 : ¬ (ln : Int) ≤ (g : Int) := by omega
          have e3 : ¬ (40 : Int) ≤ (g : Int) := by omega
          obtain rfl : u = s := HU.out (by omega)
          go_wp2_with fail
          refine (tmem_c w7 ti i Ti u.1 u.2 HT7.out.tw).mono ?_
          rw [HL2.out]
          rintro r w8 ⟨a8, p8, rfl, hM, hb⟩
          have HT8 := Hid.in (HT7.out.step hb)
          have HM8 := Hid.in hM
          clear hM hb HT7
          go_wp2_with fail
          refine (tmem_c w8 q i Si u.1 u.2 HT8.out.two.a.p).mono ?_
          rw [HL2.out]
          rintro r w9 ⟨a9, p9, rfl, hM, hb⟩
          have HT9 := Hid.in (HT8.out.step hb)
          have HU9 := Hid.in (Rows'.us hM)
          have HU8 := Hid.in (Rows'.us (HM8.out.step hb))
          clear hM hb HM8 HT8
          go_wp2_with fail
          refine (sameU_any w9 a8 a9 4 4 p8 p9 u.2 u.2 HL2.out HL2.out HU8.out HU9.out (by decide) true (decide_eq_true rfl)).mono ?_
          rintro r wA ⟨rfl, hb⟩
          have HTA := Hid.in (HT9.out.step hb)
          clear hb HT9 HU8 HU9
          go_wp2_with fail
          refine (tsoRuns_any _ sa (HE.out.below HTA.out.two.a.b)).mono ?_
          rintro r wz ⟨rfl, hb⟩
          have HBZ := Hid.in (bstep HTA.out.two.a.b (Nat.le_refl _) hb)
          clear hb
          go_wp2
          go_ret
          exact ⟨rfl, HBZ.out⟩
end Go.Proofs.YtncgjclehplfeaaDoor

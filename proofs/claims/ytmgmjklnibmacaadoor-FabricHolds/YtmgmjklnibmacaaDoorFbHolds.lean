/- DERIVED of the program: FabricHolds answers true. Own work. -/
import Derived.Test.YtmgmjklnibmacaaDoorFbWhole
namespace Go.Proofs.YtmgmjklnibmacaaDoor
open Go.RowKit Go.Extern.Stop Go.Stop Go.Extern

theorem mc_0 (m : M13) : (mc m)[0]? = some (.int .i64 m.1) := by obtain ⟨k, c, l, t, o, e, w_, v, d0, d1, d2, d3, h⟩ := m; rfl
theorem mc_1 (m : M13) : (mc m)[1]? = some (.int .i64 m.2.1) := by obtain ⟨k, c, l, t, o, e, w_, v, d0, d1, d2, d3, h⟩ := m; rfl

set_option maxHeartbeats 6400000 in
set_option maxRecDepth 20000 in
theorem fabricHolds_any (w : World) (sa : Nat → Addr) (hE : Env10 w sa) (n0 n1 : Int) (al : Option Addr) (nl capl : Nat) (Ls : List M13) (hLn : Ls.length = nl) (hL : Rows' 13 w al capl (Ls.map mc)) (hIn : InB Ls) (ao1 : Option Addr) (cap1 : Nat) (zs : List Int) (hI : Ints w ao1 cap1 zs) : Calls Tryd.prog 5 #[.int .i64 n0, .int .i64 n1, .slice al nl capl, .slice ao1 zs.length cap1] w fun r w' => r = .returned (.bool true) ∧ Below w.heap.size w w' := by
  obtain ⟨n, en, hn1, hn2⟩ := wI_nat n0 1 4 (by omega) (by omega)
  obtain ⟨k, ek, hk1, hk2⟩ := wI_nat n1 1 6 (by omega) (by omega)
  have W0 := Hid.in (fun w => within_n n0 1 4 w (by omega) (by omega) (by omega) n en)
  have W1' := Hid.in (fun w => within_n n1 1 6 w (by omega) (by omega) (by omega) k ek)
  have HE := Hid.in hE
  have HL := Hid.in hL
  have HIn := Hid.in hIn
  have HLn := Hid.in hLn
  have HI := Hid.in hI
  obtain ⟨K, hK⟩ : ∃ K, zs.length = K := ⟨_, rfl⟩
  rw [hK]
  have HKz := Hid.in hK
  clear en ek hE hL hIn hLn hI hK
  go_enter Tryd.func5, Tryd.ntmps5
  go_wp2_with fail
  refine (W0.out _).mono ?_
  rintro r w' ⟨rfl, rfl⟩
  go_wp2_with fail
  refine (W1'.out _).mono ?_
  rintro r w ⟨rfl, rfl⟩
  go_wp2_with fail
  refine (lvnew_c w n k (by omega) (by omega) (by omega) (by omega)).mono ?_
  rintro r w1 ⟨q, S1, rfl, h1⟩
  have H1 := Hid.in h1
  clear h1
  go_wp2
  go_loopw [13, 14, 15] (fun vi vo x wr => ∃ (i : Nat) (S : List Nat) (P : List (List M13)) (inn out : Nat), i ≤ 60 ∧ i ≤ nl ∧ inn ≤ i ∧ out ≤ i ∧ x = .int .i64 (i : Int) ∧ vi = .int .i64 (inn : Int) ∧ vo = .int .i64 (out : Int) ∧ allF P + out = inn ∧ Lv w wr q S n k P) (fun _ _ x _ => 70 - (intOf x).toNat)
  case atStart => exact ⟨0, S1, _, 0, 0, by omega, Nat.zero_le _, by omega, by omega, rfl, rfl, rfl, by rw [allF_none], H1.out⟩
  case round =>
    obtain ⟨i, S, P, inn, out, hi60, hinl, hini, houti, rfl, rfl, rfl, hs0, hv⟩ := hrel
    have HS0 := Hid.in hs0
    have HV := Hid.in hv
    clear hs0 hv H1
    by_cases hlt : i < nl ∧ i < 60
    · as_aux_lemma =>
        obtain ⟨hl1, hl2⟩ := hlt
        obtain ⟨mb, mo, m, rfl, hm, hRg⟩ := (HL.out.step HV.out.b).msg i (by rw [HLn.out]; exact hl1)
        obtain ⟨h32, h64⟩ := HIn.out.at hm
        have HRg := Hid.in hRg
        have i1 : (i : Int) < (nl : Int) := by omega
        have i2 : (i : Int) < 60 := by omega
        clear hm hRg
        obtain ⟨x0, x1, x2, x3, x4, x5, x6, x7, x8, x9, x10, x11, x12⟩ := m
        obtain ⟨cr, hcr, hc1, hc2⟩ := wI_nat x1 0 ((n : Int) - 1) (by omega) (by omega)
        have hwm : IntKind.i64.wrap ((n : Int) - 1) = (n : Int) - 1 := wrapI (by omega) (by omega)
        have HWi := Hid.in (fun w => within_n x1 0 ((n : Int) - 1) w (by omega) (by omega) (by omega) cr hcr)
        obtain ⟨N1, hN1⟩ : ∃ N1, (n : Int) - 1 = N1 := ⟨_, rfl⟩
        rw [hN1] at HWi
        have hwm1 : IntKind.i64.wrap ((n : Int) - 1) = N1 := by rw [hwm, hN1]
        have hcn : cr < n := by omega
        have H32 : Hid (M32 (x0, (cr : Int), x2, x3, x4, x5, x6, x7, x8, x9, x10, x11, x12)) := Hid.in h32
        have H64 : Hid (M64 (x0, (cr : Int), x2, x3, x4, x5, x6, x7, x8, x9, x10, x11, x12)) := Hid.in ⟨h64.1, by omega, h64.2.2⟩
        clear h32 h64 hwm hN1 hcr hc1 hc2
        go_upto_region 10 with (first | (refine wpList_load_mid rfl 32 (.tmp 57) rfl mb (mo + i * 13) rfl (mc (x0, x1, x2, x3, x4, x5, x6, x7, x8, x9, x10, x11, x12)) _ HRg.out Tryd.underlying32 rfl (by rw [mc_len]; exact Tryd.sizeMsg) ?_; simp only [mc_arr, mv_eq]) | fail)
        go_wp2_with fail
        refine (HWi.out _).mono ?_
        rintro r w3 ⟨rfl, rfl⟩
        go_upto_region 11 with fail
        generalize hW : (wr.alloc (.cells #[.int .i64 x0, .int .i64 (cr : Int), .int .i64 x2, .int .i64 x3, .int .i64 x4, .int .i64 x5, .int .i64 x6, .int .u32 x7, .int .u32 x8, .int .u32 x9, .int .u32 x10, .int .u32 x11, .bool x12] 32)) = W1
        have hBK : W1.heap[wr.heap.size]? = some (.cells #[.int .i64 x0, .int .i64 (cr : Int), .int .i64 x2, .int .i64 x3, .int .i64 x4, .int .i64 x5, .int .i64 x6, .int .u32 x7, .int .u32 x8, .int .u32 x9, .int .u32 x10, .int .u32 x11, .bool x12] 32 (0, 0)) := by rw [← hW]; exact heap_alloc_new _ _
        have hb1 : Below wr.heap.size wr W1 := by rw [← hW]; exact below_alloc _ _
        obtain ⟨m, hm⟩ : ∃ m : M13, (x0, (cr : Int), x2, x3, x4, x5, x6, x7, x8, x9, x10, x11, x12) = m := ⟨_, rfl⟩
        have hRg : W1.rangeAt wr.heap.size 0 (mc m) := fun j u hj => by
          rw [Nat.zero_add]
          refine blk_cell hBK ?_
          rw [← hm, mc_eq] at hj
          simpa using hj
        rw [hm] at H32 H64
        have HIm : Hid (InB [m]) := Hid.in (inB1 ⟨H32.out, H64.out⟩)
        have hm1 : m.2.1 = (cr : Int) := by rw [← hm]
        obtain ⟨kd, hkd⟩ : ∃ kd, m.1 = kd := ⟨_, rfl⟩
        have HK0 : Hid ((mc m)[0]? = some (.int .i64 kd)) := Hid.in (by rw [mc_0, hkd])
        have HK1 : Hid ((mc m)[1]? = some (.int .i64 (cr : Int))) := Hid.in (by rw [mc_1, hm1])
        obtain ⟨B, hB⟩ : ∃ B, wr.heap.size = B := ⟨_, rfl⟩
        have HNB : Hid (B ∉ S) := Hid.in (by rw [← hB]; exact HV.out.f.far (Nat.le_refl _))
        have HV2 := Hid.in (HV.out.step hb1)
        rw [hB] at hRg ⊢
        have HR2 := Hid.in hRg
        obtain ⟨a, ha⟩ : ∃ a, allF P = a := ⟨_, rfl⟩
        obtain ⟨b, hb⟩ : ∃ b, lenP n P (poolS kd) (cr : Int) = b := ⟨_, rfl⟩
        have HLen := Hid.in (fun (y : World) (hy : Below W1.heap.size W1 y) => fblen_c y q n k S P (HV2.out.step hy).f (poolS kd) (cr : Int) b hb)
        have HAl := Hid.in (fun (y : World) (hy : Below W1.heap.size W1 y) => fball_c y q n k S P (HV2.out.step hy).f a ha)
        have HA := Hid.in ha
        have hal : a ≤ 8320 := by rw [← ha]; exact HV.out.f.ok.all_le
        have hbl : b ≤ k := by
          rw [← hb]
          unfold lenP
          split
          · omega
          · exact HV.out.f.ok.room _
        have hTh : okM n m = true → plN n (poolS kd) (cr : Int) = some (thM n m) := fun h => by rw [← hkd, ← hm1]; exact (okM_th h).1
        have HTh := Hid.in hTh
        have HBq := Hid.in hb
        obtain ⟨a1, ha1⟩ : ∃ a1, a + 1 = a1 := ⟨_, rfl⟩
        have c0 : W1.cell? ⟨B, 0, none⟩ = some (.int .i64 kd) := by have h := HR2.out 0 _ HK0.out; rw [Nat.zero_add] at h; exact h
        have c1 : W1.cell? ⟨B, 1, none⟩ = some (.int .i64 (cr : Int)) := by have h := HR2.out 1 _ HK1.out; rw [Nat.zero_add] at h; exact h
        clear hW hBK hb1 hm hRg hm1 hkd hB HV ha hb hTh hwm1 HWi HRg H32 H64
        go_wp2_with fail
        refine (sPool_any kd _).mono ?_
        rintro r w4 ⟨rfl, rfl⟩
        go_wp2_with fail
        refine (HLen.out _ (Below.refl _ _)).mono ?_
        rintro r w4 ⟨rfl, rfl⟩
        go_wp2_with fail
        refine (HAl.out _ (Below.refl _ _)).mono ?_
        rintro r w4 ⟨rfl, rfl⟩
        clear HLen HAl c0 c1
        go_upto_region 13 with fail
        rename World => W1
        by_cases hgood : okM n m = true ∧ lenF P (thM n m) < k
        · as_aux_lemma =>
            obtain ⟨hok, hroom⟩ := hgood
            have HOne := Hid.in (one_ok hok hroom)
            have hlt2 : thM n m < P.length := by rw [HV2.out.f.ok.len]; exact (okM_th hok).2
            have hbe : lenF P (thM n m) = b := by have h := HBq.out; unfold lenP at h; rw [HTh.out hok] at h; exact h
            obtain ⟨b1, hb1⟩ : ∃ b1, b + 1 = b1 := ⟨_, rfl⟩
            have HA1 : Hid (allF (putF n P m) = a1) := Hid.in (by rw [allF_put hlt2, HA.out, ha1])
            have HB1 : Hid (lenP n (putF n P m) (poolS kd) (cr : Int) = b1) := Hid.in (by unfold lenP; rw [HTh.out hok]; show lenF _ _ = _; rw [lenF_putF hlt2, if_pos rfl, hbe, hb1])
            have HPeek : Hid (peekF n (putF n P m) (poolS kd) (cr : Int) (b : Int) = (m, true)) := Hid.in (peekF_in (HTh.out hok) (by rw [putF_row hlt2, if_pos rfl, ← hbe]; unfold lenF; simp))
            have hbk0 : b < k := by omega
            clear hok hroom hlt2 hbe
            have hfits := fun (y : World) (hy : Lv w y q S n k P) => fbfits_c (y.alloc (.cells (lits [m]) 32)) sa (HE.out.below (hy.step (below_alloc y (.cells (lits [m]) 32))).b) q n k S P (hy.step (below_alloc y (.cells (lits [m]) 32))).f (some ⟨y.heap.size, 0, none⟩) 1 1 [m] (Rows'.lits y [m]) rfl HIm.out (by omega) 0 0 HOne.out.1
            have hsend := fun (y : World) (hy : Lv w y q S n k P) => lvsend_f w y sa HE.out q n k S P hy [m] HIm.out 1 rfl (by omega) 0 0 0 rfl _ HOne.out.1 HOne.out.2
            simp only [perr_none] at hfits hsend
            have HFi := Hid.in hfits
            have HSe := Hid.in hsend
            clear hfits hsend
            go_wp2_with (first | (refine wpList_load_mid rfl 32 (.tmp 16) rfl B 0 rfl (mc m) _ HR2.out Tryd.underlying32 rfl (by rw [mc_len]; exact Tryd.sizeMsg) ?_; simp only [mc_arr]) | (refine wpList_build1 rfl (.tmp 76) rfl m rfl ?_) | fail)
            refine (HFi.out _ HV2.out).mono ?_
            rintro r w5 ⟨rfl, hb5⟩
            have hb5' := bstep (below_alloc _ _) (Nat.le_refl _) hb5
            have HV3 := Hid.in (HV2.out.step hb5')
            have HR3 := Hid.in (rangeAt_step HR2.out hb5')
            clear hb5 hb5' HV2 HR2
            go_wp2_with (first | (refine wpList_load_mid rfl 32 (.tmp 16) rfl B 0 rfl (mc m) _ HR3.out Tryd.underlying32 rfl (by rw [mc_len]; exact Tryd.sizeMsg) ?_; simp only [mc_arr]) | (refine wpList_build1 rfl (.tmp 80) rfl m rfl ?_) | fail)
            refine (HSe.out _ HV3.out).mono ?_
            rintro r w6 ⟨rfl, S6, hv6, hbe⟩
            have HV6 := Hid.in hv6
            have HR6 := Hid.in (rangeAt_fr HR3.out hbe.f HNB.out)
            have HNB6 : Hid (B ∉ S6) := Hid.in (fun hm => by
              rcases hbe.s B hm with h1 | h1
              · exact HNB.out h1
              · have h2 : B < _ := lt_cell (HR3.out 0 _ HK0.out); omega)
            clear hv6 hbe HV3 HR3 HFi HSe
            go_upto_region 15 with fail
            have c0 : w6.cell? ⟨B, 0, none⟩ = some (.int .i64 kd) := by have h := HR6.out 0 _ HK0.out; rw [Nat.zero_add] at h; exact h
            have c1 : w6.cell? ⟨B, 1, none⟩ = some (.int .i64 (cr : Int)) := by have h := HR6.out 1 _ HK1.out; rw [Nat.zero_add] at h; exact h
            have n1 : ∀ n : Kin (fun X => Below w6.heap.size w6 X), n.of.cell? ⟨B, 1, none⟩ = some (.int .i64 (cr : Int)) := fun n => (n.in.cell (p := ⟨B, 1, none⟩) (lt_cell c1)).trans c1
            have hwa : IntKind.i64.wrap ((a : Int) + 1) = (a1 : Int) := by rw [wrapI (by omega) (by omega)]; omega
            have HAll := Hid.in (fun (y : World) (hy : Below w6.heap.size w6 y) => fball_c y q n k S6 (putF n P m) (HV6.out.step hy).f a1 HA1.out)
            have HLw := Hid.in (fun (y : World) (hy : Below w6.heap.size w6 y) => fblen_c y q n k S6 (putF n P m) (HV6.out.step hy).f (poolS kd) (cr : Int) b1 HB1.out)
            have hwb : IntKind.i64.wrap ((b : Int) + 1) = (b1 : Int) := by rw [wrapI (by omega) (by omega)]; omega
            have hbk : ¬ (b : Int) ≥ (k : Int) := by omega
            have hbk2 : ¬ (k : Int) ≤ (b : Int) := by omega
            refine wp_region_kin (C := fun X => Below w6.heap.size w6 X) (by kernel_rfl) (by kernel_rfl) (Below.refl _ _).drew (fun hne' => ?_)
            repeat (go_big_quiet_step (first | (go_at_call 13; exact Kin.same _ (HAll.out _ (Kin.in _))) | (go_at_call 15; exact Kin.same _ (HLw.out _ (Kin.in _)))))
            refine wpQuiet_nil ?_
            rintro wq ⟨x, rfl⟩
            have hxq := x.in
            generalize x.of = wq at hxq
            have HV7 := Hid.in (HV6.out.step hxq)
            have HR7 := Hid.in (rangeAt_step HR6.out hxq)
            clear hxq n1 c0 c1 HAll HLw hwb hbk hbk2 HV6 HR6
            have hin : IntKind.i64.wrap ((inn : Int) + 1) = (inn : Int) + 1 := wrapI (by omega) (by omega)
            have c0 : wq.cell? ⟨B, 0, none⟩ = some (.int .i64 kd) := by have h := HR7.out 0 _ HK0.out; rw [Nat.zero_add] at h; exact h
            have c1 : wq.cell? ⟨B, 1, none⟩ = some (.int .i64 (cr : Int)) := by have h := HR7.out 1 _ HK1.out; rw [Nat.zero_add] at h; exact h
            go_wp2_with fail
            refine (fbpeek_c wq q n k S6 (putF n P m) HV7.out.f (poolS kd) (cr : Int) (b : Int) m true HPeek.out).mono ?_
            rintro r v0 ⟨rfl, hb0⟩
            have HV8 := Hid.in (HV7.out.step hb0)
            have HR8 := Hid.in (rangeAt_step HR7.out hb0)
            clear hb0 HV7 HR7 c0 c1
            go_upto_region 20 with (first | (refine wpList_store_mid rfl 32 (.tmp 22) (.tmp 138) rfl v0.heap.size 0 (mv m) rfl rfl (there_zero v0 m) (Tryd.sizeMv _) (mv_one _) ?_; generalize hu0 : (v0.alloc _).setCells v0.heap.size 0 (mv m).toList = u0) | fail)
            have Ru0 : Hid (u0.rangeAt v0.heap.size 0 (mc m)) := Hid.in (by rw [← hu0]; exact World.rangeAt_setCells_same _ _ _ _ (by rw [Array.length_toList]; exact there_zero v0 m))
            have Gu0 : Hid (Below v0.heap.size v0 u0) := Hid.in (by
              have hg : v0.grownBy u0 (some v0.heap.size) := by rw [← hu0]; exact grown_trans' (grown_of_below (below_alloc _ _) _) (grown_setCells _ _ _ _)
              exact ⟨hg.os, hg.tape, hg.output, hg.size, fun k hk => hg.block k hk (fun e => by cases e; omega)⟩)
            clear hu0
            have HV9 := Hid.in (HV8.out.step Gu0.out)
            have HR9 := Hid.in (rangeAt_step HR8.out Gu0.out)
            clear HV8 HR8 Gu0
            have hne := fun w => ne_same m w
            have heq := fun w => eq_same m w
            go_upto_region 22 with (first | (refine wpList_loadG rfl 32 (.tmp 22) rfl v0.heap.size 0 rfl (mc m) _ Ru0.out Tryd.underlying32 rfl (by rw [mc_len]; exact Tryd.sizeMsg) ?_; simp only [mc_arr]) | (refine wpList_loadG rfl 32 (.tmp 16) rfl B 0 rfl (mc m) _ HR9.out Tryd.underlying32 rfl (by rw [mc_len]; exact Tryd.sizeMsg) ?_; simp only [mc_arr]) | fail)
            have HSum : Hid (allF (putF n P m) + out = inn + 1) := Hid.in (by rw [HA1.out]; have := HS0.out; have := HA.out; omega)
            have hii : (inn : Int) + 1 = ((inn + 1 : Nat) : Int) := by omega
            rw [hii]
            clear hne heq Ru0 hin hii hwa
            have c0 : u0.cell? ⟨B, 0, none⟩ = some (.int .i64 kd) := by have h := HR9.out 0 _ HK0.out; rw [Nat.zero_add] at h; exact h
            have c1 : u0.cell? ⟨B, 1, none⟩ = some (.int .i64 (cr : Int)) := by have h := HR9.out 1 _ HK1.out; rw [Nat.zero_add] at h; exact h
            obtain ⟨l2, hl2⟩ : ∃ l2, lenP n (putF n P m) (poolS kd) (cr : Int) = l2 := ⟨_, rfl⟩
            have HLen := Hid.in (fun y (hy : Below u0.heap.size u0 y) => fblen_c y q n k S6 (putF n P m) (HV9.out.step hy).f (poolS kd) (cr : Int) l2 hl2)
            have HL2 := Hid.in hl2
            clear hl2
            by_cases hiK : i < K
            · have iK : (i : Int) < (K : Int) := by omega
              obtain ⟨b1, o1, rfl, hz⟩ := HI.out.cell i (by rw [HKz.out]; exact hiK)
              have hz1 : u0.cell? ⟨b1, o1 + i, none⟩ = some (.int .i64 (zs[i]'(by rw [HKz.out]; exact hiK))) := (HV9.out.b.cell (p := ⟨b1, o1 + i, none⟩) (lt_cell (q := ⟨b1, o1 + i, none⟩) hz)).trans hz
              generalize zs[i]'(by rw [HKz.out]; exact hiK) = z at hz1
              clear hz
              by_cases hev : z.tmod 2 = 0
              · have hevb : (z.tmod 2 == 0) = true := by simp [hev]
                by_cases hl0 : 0 < l2
                · as_aux_lemma =>
                    have il0 : (0 : Int) < (l2 : Int) := by omega
                    obtain ⟨ix, hix, hlx⟩ : ∃ ix, plN n (poolS kd) (cr : Int) = some ix ∧ lenF (putF n P m) ix = l2 := by
                      have h := HL2.out
                      unfold lenP at h
                      cases hp : plN n (poolS kd) (cr : Int) with
                      | none => rw [hp] at h; simp at h; omega
                      | some ix => rw [hp] at h; exact ⟨ix, rfl, h⟩
                    obtain ⟨kk, ek, hk1', hk2'⟩ := wI_nat z 0 ((l2 : Int) - 1) (by omega) (by omega)
                    have hl64 : l2 ≤ 64 := by rw [← hlx]; have := HV9.out.f.ok.room ix; have h6 := HV9.out.f.ok.rm64; omega
                    have hwm : IntKind.i64.wrap ((l2 : Int) - 1) = (l2 : Int) - 1 := wrapI (by omega) (by omega)
                    have HWi := Hid.in (fun w => within_n z 0 ((l2 : Int) - 1) w (by omega) (by omega) (by omega) kk ek)
                    obtain ⟨N1, hN1⟩ : ∃ N1, (l2 : Int) - 1 = N1 := ⟨_, rfl⟩
                    rw [hN1] at HWi
                    have hwm1 : IntKind.i64.wrap ((l2 : Int) - 1) = N1 := by rw [hwm, hN1]
                    have hkl : kk < lenF (putF n P m) ix := by omega
                    obtain ⟨m2, hm2⟩ : ∃ m2, ((putF n P m).getD ix [])[kk]? = some m2 := ⟨_, List.getElem?_eq_getElem hkl⟩
                    have HPk := Hid.in (peekF_in hix hm2)
                    have HTk := Hid.in (tookF_in hix hkl)
                    have HAl : Hid (allF ((putF n P m).set ix (((putF n P m).getD ix []).eraseIdx kk)) + 1 = allF (putF n P m)) := Hid.in (by
                      have h := allF_set (P := (putF n P m)) (i := ix) (L := ((putF n P m).getD ix []).eraseIdx kk) (by rw [HV9.out.f.ok.len]; exact plN_lt hix)
                      rw [List.length_eraseIdx, if_pos (show kk < ((putF n P m).getD ix []).length from hkl)] at h
                      unfold lenF at h hkl
                      omega)
                    clear hwm hN1 ek hk1' hk2' hix hlx hkl hm2
                    go_wp2_with fail
                    refine (HLen.out _ (Below.refl _ _)).mono ?_
                    rintro r wl ⟨rfl, rfl⟩
                    go_upto_region 23 with fail
                    rename World => wl
                    have n0 : ∀ n : Kin (fun X => Below wl.heap.size wl X), n.of.cell? ⟨b1, o1 + i, none⟩ = some (.int .i64 z) := fun n => (n.in.cell (p := ⟨b1, o1 + i, none⟩) (lt_cell hz1)).trans hz1
                    have n1 : ∀ n : Kin (fun X => Below wl.heap.size wl X), n.of.cell? ⟨B, 1, none⟩ = some (.int .i64 (cr : Int)) := fun n => (n.in.cell (p := ⟨B, 1, none⟩) (lt_cell c1)).trans c1
                    refine wp_region_kin (C := fun X => Below wl.heap.size wl X) (by kernel_rfl) (by kernel_rfl) (Below.refl _ _).drew (fun hne' => ?_)
                    repeat (go_big_quiet_step (first | (go_at_call 15; exact Kin.same _ (HLen.out _ (Kin.in _))) | (go_at_call 26; exact Kin.same _ (HWi.out _))))
                    refine wpQuiet_nil ?_
                    rintro wq ⟨x, rfl⟩
                    have hxq := x.in
                    generalize x.of = wq at hxq
                    have HV5 := Hid.in (HV9.out.step hxq)
                    have HR5 := Hid.in (rangeAt_step HR9.out hxq)
                    clear hxq n0 n1 c0 c1 hz1 hwm1 HLen HWi HV9 HR9
                    have c0 : wq.cell? ⟨B, 0, none⟩ = some (.int .i64 kd) := by have h := HR5.out 0 _ HK0.out; rw [Nat.zero_add] at h; exact h
                    have c1 : wq.cell? ⟨B, 1, none⟩ = some (.int .i64 (cr : Int)) := by have h := HR5.out 1 _ HK1.out; rw [Nat.zero_add] at h; exact h
                    go_wp2_with fail
                    as_aux_lemma =>
                      refine (fbpeek_c wq q n k S6 (putF n P m) HV5.out.f (poolS kd) (cr : Int) (kk : Int) m2 true HPk.out).mono ?_
                      rintro r v1 ⟨rfl, hb1⟩
                      as_aux_lemma =>
                        have HV6 := Hid.in (HV5.out.step hb1)
                        have HR6 := Hid.in (rangeAt_step HR5.out hb1)
                        clear hb1 HV5 HR5 c0 c1
                        as_aux_lemma =>
                          go_upto_region 25 with (first | (refine wpList_store_mid rfl 32 (.tmp 25) (.tmp 185) rfl v1.heap.size 0 (mv m2) rfl rfl (there_zero v1 m2) (Tryd.sizeMv _) (mv_one _) ?_; generalize hu1 : (v1.alloc _).setCells v1.heap.size 0 (mv m2).toList = u1) | fail)
                          as_aux_lemma =>
                            have Ru1 : Hid (u1.rangeAt v1.heap.size 0 (mc m2)) := Hid.in (by rw [← hu1]; exact World.rangeAt_setCells_same _ _ _ _ (by rw [Array.length_toList]; exact there_zero v1 m2))
                            have Gu1 : Hid (Below v1.heap.size v1 u1) := Hid.in (by
                              have hg : v1.grownBy u1 (some v1.heap.size) := by rw [← hu1]; exact grown_trans' (grown_of_below (below_alloc _ _) _) (grown_setCells _ _ _ _)
                              exact ⟨hg.os, hg.tape, hg.output, hg.size, fun k hk => hg.block k hk (fun e => by cases e; omega)⟩)
                            clear hu1
                            as_aux_lemma =>
                              have HV7 := Hid.in (HV6.out.step Gu1.out)
                              have HR7 := Hid.in (rangeAt_step HR6.out Gu1.out)
                              have HFv : Hid (v1.heap.size ∉ S6) := Hid.in (HV6.out.f.far (Nat.le_refl _))
                              clear HV6 HR6 Gu1
                              have c0 : u1.cell? ⟨B, 0, none⟩ = some (.int .i64 kd) := by have h := HR7.out 0 _ HK0.out; rw [Nat.zero_add] at h; exact h
                              have c1 : u1.cell? ⟨B, 1, none⟩ = some (.int .i64 (cr : Int)) := by have h := HR7.out 1 _ HK1.out; rw [Nat.zero_add] at h; exact h
                              go_wp2_with fail
                              as_aux_lemma =>
                                refine (lvtake_f w u1 q n k S6 (putF n P m) HV7.out (poolS kd) (cr : Int) (kk : Int) m2 true HPk.out _ HTk.out).mono ?_
                                rintro r v2 ⟨rfl, S9, hv9, hbe⟩
                                have HV9 := Hid.in hv9
                                have R9 := Hid.in (rangeAt_fr Ru1.out hbe.f HFv.out)
                                clear hv9 hbe HV7 HR7 Ru1 c0 c1
                                go_upto_region 26 with (first | (refine wpList_store_mid rfl 32 (.tmp 27) (.tmp 194) rfl v2.heap.size 0 (mv m2) rfl rfl (there_zero v2 m2) (Tryd.sizeMv _) (mv_one _) ?_; generalize hu2 : (v2.alloc _).setCells v2.heap.size 0 (mv m2).toList = u2) | fail)
                                have Ru2 : Hid (u2.rangeAt v2.heap.size 0 (mc m2)) := Hid.in (by rw [← hu2]; exact World.rangeAt_setCells_same _ _ _ _ (by rw [Array.length_toList]; exact there_zero v2 m2))
                                have Gu2 : Hid (Below v2.heap.size v2 u2) := Hid.in (by
                                  have hg : v2.grownBy u2 (some v2.heap.size) := by rw [← hu2]; exact grown_trans' (grown_of_below (below_alloc _ _) _) (grown_setCells _ _ _ _)
                                  exact ⟨hg.os, hg.tape, hg.output, hg.size, fun k hk => hg.block k hk (fun e => by cases e; omega)⟩)
                                clear hu2
                                have HV10 := Hid.in (HV9.out.step Gu2.out)
                                have R10 := Hid.in (rangeAt_step R9.out Gu2.out)
                                clear HV9 R9 Gu2
                                as_aux_lemma =>
                                  have hne := fun w => ne_same m2 w
                                  have heq := fun w => eq_same m2 w
                                  have ho1 : IntKind.i64.wrap ((out : Int) + 1) = (out : Int) + 1 := wrapI (by omega) (by omega)
                                  go_wp2_with (first | (refine wpList_loadG rfl 32 (.tmp 25) rfl v1.heap.size 0 rfl (mc m2) _ R10.out Tryd.underlying32 rfl (by rw [mc_len]; exact Tryd.sizeMsg) ?_; simp only [mc_arr]) | (refine wpList_loadG rfl 32 (.tmp 27) rfl v2.heap.size 0 rfl (mc m2) _ Ru2.out Tryd.underlying32 rfl (by rw [mc_len]; exact Tryd.sizeMsg) ?_; simp only [mc_arr]) | fail)
                                  go_roundw
                                  case rel => exact ⟨i + 1, S9, _, (inn + 1), out + 1, by omega, by omega, by omega, by omega, by go_num, rfl, by first | rfl | exact congrArg (Value.int .i64) (by omega), by have h1 := HAl.out; have h2 := HSum.out; omega, HV10.out⟩
                                  case measure => simp [intOf]; omega
                · as_aux_lemma =>
                    have il0 : ¬ (0 : Int) < (l2 : Int) := by omega
                    go_wp2_with fail
                    refine (HLen.out _ (Below.refl _ _)).mono ?_
                    rintro r wl ⟨rfl, rfl⟩
                    go_wp2
                    go_roundw
                    case rel => exact ⟨i + 1, S6, _, (inn + 1), out, by omega, by omega, by omega, by omega, by go_num, rfl, rfl, HSum.out, HV9.out⟩
                    case measure => simp [intOf]; omega
              · as_aux_lemma =>
                  have hevb : (z.tmod 2 == 0) = false := by simp [hev]
                  go_wp2
                  go_roundw
                  case rel => exact ⟨i + 1, S6, _, (inn + 1), out, by omega, by omega, by omega, by omega, by go_num, rfl, rfl, HSum.out, HV9.out⟩
                  case measure => simp [intOf]; omega
            · as_aux_lemma =>
                have iK : ¬ (i : Int) < (K : Int) := by omega
                go_wp2
                go_roundw
                case rel => exact ⟨i + 1, S6, _, (inn + 1), out, by omega, by omega, by omega, by omega, by go_num, rfl, rfl, HSum.out, HV9.out⟩
                case measure => simp [intOf]; omega
        · as_aux_lemma =>
            obtain ⟨cd, hcd, hone⟩ : ∃ cd, cd ≠ 0 ∧ (fitsF n k P [m] = (cd, 0) ∧ sentF n k P [m] = P) := by
              cases hok : okM n m with
              | false => exact ⟨1, by decide, one_bad hok⟩
              | true => exact ⟨6, by decide, one_full hok (by rcases Nat.lt_or_ge (lenF P (thM n m)) k with h1 | h1; (· exact absurd ⟨hok, h1⟩ hgood); exact h1)⟩
            have HCd := Hid.in hcd
            have HOne := Hid.in hone
            clear hcd hone hgood
            have hfits := fun (y : World) (hy : Lv w y q S n k P) => fbfits_c (y.alloc (.cells (lits [m]) 32)) sa (HE.out.below (hy.step (below_alloc y (.cells (lits [m]) 32))).b) q n k S P (hy.step (below_alloc y (.cells (lits [m]) 32))).f (some ⟨y.heap.size, 0, none⟩) 1 1 [m] (Rows'.lits y [m]) rfl HIm.out (by omega) cd 0 HOne.out.1
            have hsend := fun (y : World) (hy : Lv w y q S n k P) => lvsend_f w y sa HE.out q n k S P hy [m] HIm.out 1 rfl (by omega) cd 0 0 rfl _ HOne.out.1 HOne.out.2
            simp only [perr_ne _ _ _ _ HCd.out] at hfits hsend
            have HFi := Hid.in hfits
            have HSe := Hid.in hsend
            clear hfits hsend
            go_wp2_with (first | (refine wpList_load_mid rfl 32 (.tmp 16) rfl B 0 rfl (mc m) _ HR2.out Tryd.underlying32 rfl (by rw [mc_len]; exact Tryd.sizeMsg) ?_; simp only [mc_arr]) | (refine wpList_build1 rfl (.tmp 76) rfl m rfl ?_) | fail)
            refine (HFi.out _ HV2.out).mono ?_
            rintro r w5 ⟨rfl, hb5⟩
            have hb5' := bstep (below_alloc _ _) (Nat.le_refl _) hb5
            have HV3 := Hid.in (HV2.out.step hb5')
            have HR3 := Hid.in (rangeAt_step HR2.out hb5')
            clear hb5 hb5' HV2 HR2
            go_wp2_with (first | (refine wpList_load_mid rfl 32 (.tmp 16) rfl B 0 rfl (mc m) _ HR3.out Tryd.underlying32 rfl (by rw [mc_len]; exact Tryd.sizeMsg) ?_; simp only [mc_arr]) | (refine wpList_build1 rfl (.tmp 80) rfl m rfl ?_) | fail)
            refine (HSe.out _ HV3.out).mono ?_
            rintro r w6 ⟨rfl, S6, hv6, hbe⟩
            have HV6 := Hid.in hv6
            have HR6 := Hid.in (rangeAt_fr HR3.out hbe.f HNB.out)
            have HNB6 : Hid (B ∉ S6) := Hid.in (fun hm => by
              rcases hbe.s B hm with h1 | h1
              · exact HNB.out h1
              · have h2 : B < _ := lt_cell (HR3.out 0 _ HK0.out); omega)
            clear hv6 hbe HV3 HR3 HFi HSe
            go_upto_region 15 with fail
            have c0 : w6.cell? ⟨B, 0, none⟩ = some (.int .i64 kd) := by have h := HR6.out 0 _ HK0.out; rw [Nat.zero_add] at h; exact h
            have c1 : w6.cell? ⟨B, 1, none⟩ = some (.int .i64 (cr : Int)) := by have h := HR6.out 1 _ HK1.out; rw [Nat.zero_add] at h; exact h
            have n1 : ∀ n : Kin (fun X => Below w6.heap.size w6 X), n.of.cell? ⟨B, 1, none⟩ = some (.int .i64 (cr : Int)) := fun n => (n.in.cell (p := ⟨B, 1, none⟩) (lt_cell c1)).trans c1
            have hwa : IntKind.i64.wrap ((a : Int) + 1) = (a1 : Int) := by rw [wrapI (by omega) (by omega)]; omega
            have HAll := Hid.in (fun (y : World) (hy : Below w6.heap.size w6 y) => fball_c y q n k S6 P (HV6.out.step hy).f a HA.out)
            have hea : ((a : Int) == (a1 : Int)) = false := by simp; omega
            refine wp_region_kin (C := fun X => Below w6.heap.size w6 X) (by kernel_rfl) (by kernel_rfl) (Below.refl _ _).drew (fun hne' => ?_)
            repeat (go_big_quiet_step (first | (go_at_call 13; exact Kin.same _ (HAll.out _ (Kin.in _)))))
            refine wpQuiet_nil ?_
            rintro wq ⟨x, rfl⟩
            have hxq := x.in
            generalize x.of = wq at hxq
            have HV7 := Hid.in (HV6.out.step hxq)
            have HR7 := Hid.in (rangeAt_step HR6.out hxq)
            clear hxq n1 c0 c1 HAll hea HV6 HR6
            go_upto_region 22 with fail
            clear hwa
            have c0 : wq.cell? ⟨B, 0, none⟩ = some (.int .i64 kd) := by have h := HR7.out 0 _ HK0.out; rw [Nat.zero_add] at h; exact h
            have c1 : wq.cell? ⟨B, 1, none⟩ = some (.int .i64 (cr : Int)) := by have h := HR7.out 1 _ HK1.out; rw [Nat.zero_add] at h; exact h
            obtain ⟨l2, hl2⟩ : ∃ l2, lenP n P (poolS kd) (cr : Int) = l2 := ⟨_, rfl⟩
            have HLen := Hid.in (fun y (hy : Below wq.heap.size wq y) => fblen_c y q n k S6 P (HV7.out.step hy).f (poolS kd) (cr : Int) l2 hl2)
            have HL2 := Hid.in hl2
            clear hl2
            by_cases hiK : i < K
            · have iK : (i : Int) < (K : Int) := by omega
              obtain ⟨b1, o1, rfl, hz⟩ := HI.out.cell i (by rw [HKz.out]; exact hiK)
              have hz1 : wq.cell? ⟨b1, o1 + i, none⟩ = some (.int .i64 (zs[i]'(by rw [HKz.out]; exact hiK))) := (HV7.out.b.cell (p := ⟨b1, o1 + i, none⟩) (lt_cell (q := ⟨b1, o1 + i, none⟩) hz)).trans hz
              generalize zs[i]'(by rw [HKz.out]; exact hiK) = z at hz1
              clear hz
              by_cases hev : z.tmod 2 = 0
              · have hevb : (z.tmod 2 == 0) = true := by simp [hev]
                by_cases hl0 : 0 < l2
                · as_aux_lemma =>
                    have il0 : (0 : Int) < (l2 : Int) := by omega
                    obtain ⟨ix, hix, hlx⟩ : ∃ ix, plN n (poolS kd) (cr : Int) = some ix ∧ lenF P ix = l2 := by
                      have h := HL2.out
                      unfold lenP at h
                      cases hp : plN n (poolS kd) (cr : Int) with
                      | none => rw [hp] at h; simp at h; omega
                      | some ix => rw [hp] at h; exact ⟨ix, rfl, h⟩
                    obtain ⟨kk, ek, hk1', hk2'⟩ := wI_nat z 0 ((l2 : Int) - 1) (by omega) (by omega)
                    have hl64 : l2 ≤ 64 := by rw [← hlx]; have := HV7.out.f.ok.room ix; have h6 := HV7.out.f.ok.rm64; omega
                    have hwm : IntKind.i64.wrap ((l2 : Int) - 1) = (l2 : Int) - 1 := wrapI (by omega) (by omega)
                    have HWi := Hid.in (fun w => within_n z 0 ((l2 : Int) - 1) w (by omega) (by omega) (by omega) kk ek)
                    obtain ⟨N1, hN1⟩ : ∃ N1, (l2 : Int) - 1 = N1 := ⟨_, rfl⟩
                    rw [hN1] at HWi
                    have hwm1 : IntKind.i64.wrap ((l2 : Int) - 1) = N1 := by rw [hwm, hN1]
                    have hkl : kk < lenF P ix := by omega
                    obtain ⟨m2, hm2⟩ : ∃ m2, (P.getD ix [])[kk]? = some m2 := ⟨_, List.getElem?_eq_getElem hkl⟩
                    have HPk := Hid.in (peekF_in hix hm2)
                    have HTk := Hid.in (tookF_in hix hkl)
                    have HAl : Hid (allF (P.set ix ((P.getD ix []).eraseIdx kk)) + 1 = allF P) := Hid.in (by
                      have h := allF_set (P := P) (i := ix) (L := (P.getD ix []).eraseIdx kk) (by rw [HV7.out.f.ok.len]; exact plN_lt hix)
                      rw [List.length_eraseIdx, if_pos (show kk < (P.getD ix []).length from hkl)] at h
                      unfold lenF at h hkl
                      omega)
                    clear hwm hN1 ek hk1' hk2' hix hlx hkl hm2
                    go_wp2_with fail
                    refine (HLen.out _ (Below.refl _ _)).mono ?_
                    rintro r wl ⟨rfl, rfl⟩
                    go_upto_region 23 with fail
                    rename World => wl
                    have n0 : ∀ n : Kin (fun X => Below wl.heap.size wl X), n.of.cell? ⟨b1, o1 + i, none⟩ = some (.int .i64 z) := fun n => (n.in.cell (p := ⟨b1, o1 + i, none⟩) (lt_cell hz1)).trans hz1
                    have n1 : ∀ n : Kin (fun X => Below wl.heap.size wl X), n.of.cell? ⟨B, 1, none⟩ = some (.int .i64 (cr : Int)) := fun n => (n.in.cell (p := ⟨B, 1, none⟩) (lt_cell c1)).trans c1
                    refine wp_region_kin (C := fun X => Below wl.heap.size wl X) (by kernel_rfl) (by kernel_rfl) (Below.refl _ _).drew (fun hne' => ?_)
                    repeat (go_big_quiet_step (first | (go_at_call 15; exact Kin.same _ (HLen.out _ (Kin.in _))) | (go_at_call 26; exact Kin.same _ (HWi.out _))))
                    refine wpQuiet_nil ?_
                    rintro wq ⟨x, rfl⟩
                    have hxq := x.in
                    generalize x.of = wq at hxq
                    have HV5 := Hid.in (HV7.out.step hxq)
                    have HR5 := Hid.in (rangeAt_step HR7.out hxq)
                    clear hxq n0 n1 c0 c1 hz1 hwm1 HLen HWi HV7 HR7
                    have c0 : wq.cell? ⟨B, 0, none⟩ = some (.int .i64 kd) := by have h := HR5.out 0 _ HK0.out; rw [Nat.zero_add] at h; exact h
                    have c1 : wq.cell? ⟨B, 1, none⟩ = some (.int .i64 (cr : Int)) := by have h := HR5.out 1 _ HK1.out; rw [Nat.zero_add] at h; exact h
                    go_wp2_with fail
                    as_aux_lemma =>
                      refine (fbpeek_c wq q n k S6 P HV5.out.f (poolS kd) (cr : Int) (kk : Int) m2 true HPk.out).mono ?_
                      rintro r v1 ⟨rfl, hb1⟩
                      as_aux_lemma =>
                        have HV6 := Hid.in (HV5.out.step hb1)
                        have HR6 := Hid.in (rangeAt_step HR5.out hb1)
                        clear hb1 HV5 HR5 c0 c1
                        as_aux_lemma =>
                          go_upto_region 25 with (first | (refine wpList_store_mid rfl 32 (.tmp 25) (.tmp 185) rfl v1.heap.size 0 (mv m2) rfl rfl (there_zero v1 m2) (Tryd.sizeMv _) (mv_one _) ?_; generalize hu1 : (v1.alloc _).setCells v1.heap.size 0 (mv m2).toList = u1) | fail)
                          as_aux_lemma =>
                            have Ru1 : Hid (u1.rangeAt v1.heap.size 0 (mc m2)) := Hid.in (by rw [← hu1]; exact World.rangeAt_setCells_same _ _ _ _ (by rw [Array.length_toList]; exact there_zero v1 m2))
                            have Gu1 : Hid (Below v1.heap.size v1 u1) := Hid.in (by
                              have hg : v1.grownBy u1 (some v1.heap.size) := by rw [← hu1]; exact grown_trans' (grown_of_below (below_alloc _ _) _) (grown_setCells _ _ _ _)
                              exact ⟨hg.os, hg.tape, hg.output, hg.size, fun k hk => hg.block k hk (fun e => by cases e; omega)⟩)
                            clear hu1
                            as_aux_lemma =>
                              have HV7 := Hid.in (HV6.out.step Gu1.out)
                              have HR7 := Hid.in (rangeAt_step HR6.out Gu1.out)
                              have HFv : Hid (v1.heap.size ∉ S6) := Hid.in (HV6.out.f.far (Nat.le_refl _))
                              clear HV6 HR6 Gu1
                              have c0 : u1.cell? ⟨B, 0, none⟩ = some (.int .i64 kd) := by have h := HR7.out 0 _ HK0.out; rw [Nat.zero_add] at h; exact h
                              have c1 : u1.cell? ⟨B, 1, none⟩ = some (.int .i64 (cr : Int)) := by have h := HR7.out 1 _ HK1.out; rw [Nat.zero_add] at h; exact h
                              go_wp2_with fail
                              as_aux_lemma =>
                                refine (lvtake_f w u1 q n k S6 P HV7.out (poolS kd) (cr : Int) (kk : Int) m2 true HPk.out _ HTk.out).mono ?_
                                rintro r v2 ⟨rfl, S9, hv9, hbe⟩
                                have HV9 := Hid.in hv9
                                have R9 := Hid.in (rangeAt_fr Ru1.out hbe.f HFv.out)
                                clear hv9 hbe HV7 HR7 Ru1 c0 c1
                                go_upto_region 26 with (first | (refine wpList_store_mid rfl 32 (.tmp 27) (.tmp 194) rfl v2.heap.size 0 (mv m2) rfl rfl (there_zero v2 m2) (Tryd.sizeMv _) (mv_one _) ?_; generalize hu2 : (v2.alloc _).setCells v2.heap.size 0 (mv m2).toList = u2) | fail)
                                have Ru2 : Hid (u2.rangeAt v2.heap.size 0 (mc m2)) := Hid.in (by rw [← hu2]; exact World.rangeAt_setCells_same _ _ _ _ (by rw [Array.length_toList]; exact there_zero v2 m2))
                                have Gu2 : Hid (Below v2.heap.size v2 u2) := Hid.in (by
                                  have hg : v2.grownBy u2 (some v2.heap.size) := by rw [← hu2]; exact grown_trans' (grown_of_below (below_alloc _ _) _) (grown_setCells _ _ _ _)
                                  exact ⟨hg.os, hg.tape, hg.output, hg.size, fun k hk => hg.block k hk (fun e => by cases e; omega)⟩)
                                clear hu2
                                have HV10 := Hid.in (HV9.out.step Gu2.out)
                                have R10 := Hid.in (rangeAt_step R9.out Gu2.out)
                                clear HV9 R9 Gu2
                                as_aux_lemma =>
                                  have hne := fun w => ne_same m2 w
                                  have heq := fun w => eq_same m2 w
                                  have ho1 : IntKind.i64.wrap ((out : Int) + 1) = (out : Int) + 1 := wrapI (by omega) (by omega)
                                  go_wp2_with (first | (refine wpList_loadG rfl 32 (.tmp 25) rfl v1.heap.size 0 rfl (mc m2) _ R10.out Tryd.underlying32 rfl (by rw [mc_len]; exact Tryd.sizeMsg) ?_; simp only [mc_arr]) | (refine wpList_loadG rfl 32 (.tmp 27) rfl v2.heap.size 0 rfl (mc m2) _ Ru2.out Tryd.underlying32 rfl (by rw [mc_len]; exact Tryd.sizeMsg) ?_; simp only [mc_arr]) | fail)
                                  go_roundw
                                  case rel => exact ⟨i + 1, S9, _, inn, out + 1, by omega, by omega, by omega, by omega, by go_num, rfl, by first | rfl | exact congrArg (Value.int .i64) (by omega), by have h1 := HAl.out; have h2 := HS0.out; omega, HV10.out⟩
                                  case measure => simp [intOf]; omega
                · as_aux_lemma =>
                    have il0 : ¬ (0 : Int) < (l2 : Int) := by omega
                    go_wp2_with fail
                    refine (HLen.out _ (Below.refl _ _)).mono ?_
                    rintro r wl ⟨rfl, rfl⟩
                    go_wp2
                    go_roundw
                    case rel => exact ⟨i + 1, S6, _, inn, out, by omega, by omega, by omega, by omega, by go_num, rfl, rfl, HS0.out, HV7.out⟩
                    case measure => simp [intOf]; omega
              · as_aux_lemma =>
                  have hevb : (z.tmod 2 == 0) = false := by simp [hev]
                  go_wp2
                  go_roundw
                  case rel => exact ⟨i + 1, S6, _, inn, out, by omega, by omega, by omega, by omega, by go_num, rfl, rfl, HS0.out, HV7.out⟩
                  case measure => simp [intOf]; omega
            · as_aux_lemma =>
                have iK : ¬ (i : Int) < (K : Int) := by omega
                go_wp2
                go_roundw
                case rel => exact ⟨i + 1, S6, _, inn, out, by omega, by omega, by omega, by omega, by go_num, rfl, rfl, HS0.out, HV7.out⟩
                case measure => simp [intOf]; omega
    · as_aux_lemma =>
        go_upto_region 7 with fail
        rename World => wo
        go_cut [52] (fun b wx => b = .bool false ∧ wx = wo)
        case first =>
          by_cases hil : i < nl
          · have i1 : (i : Int) < (nl : Int) := by omega
            have i2 : ¬ (i : Int) < 60 := by omega
            go_wp2_with fail
            go_meet
            case rel => exact ⟨rfl, rfl⟩
          · have i1 : ¬ (i : Int) < (nl : Int) := by omega
            go_wp2_with fail
            go_meet
            case rel => exact ⟨rfl, rfl⟩
        case rest =>
          obtain ⟨rfl, hwx⟩ := hcut
          rename World => wc
          subst hwx
          rename World => wo
          obtain ⟨a, ha⟩ : ∃ a, allF P = a := ⟨_, rfl⟩
          have hs := HS0.out
          rw [ha] at hs
          have hal : a ≤ 8320 := by rw [← ha]; exact HV.out.f.ok.all_le
          have hsub : IntKind.i64.wrap ((inn : Int) - (out : Int)) = (a : Int) := by rw [wrapI (by omega) (by omega)]; omega
          have HC := Hid.in (fball_c wo q n k S P HV.out.f a ha)
          clear hs ha hal
          go_wp2_with fail
          refine HC.out.mono ?_
          rintro r wz ⟨rfl, rfl⟩
          go_wp2_with fail
          refine (fabricRuns_any _ sa (HE.out.below HV.out.b)).mono ?_
          rintro r x4 ⟨rfl, hb4⟩
          have HB4 := Hid.in (bstep HV.out.b (Nat.le_refl _) hb4)
          clear hb4 HC
          go_wp2
          go_ret
          exact ⟨rfl, HB4.out⟩

end Go.Proofs.YtmgmjklnibmacaaDoor

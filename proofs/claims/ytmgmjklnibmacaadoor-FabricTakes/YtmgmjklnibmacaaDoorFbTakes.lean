/- DERIVED of the program: FabricTakes answers true. Own work. -/
import Derived.Test.YtmgmjklnibmacaaDoorFbL
namespace Go.Proofs.YtmgmjklnibmacaaDoor
open Go.RowKit Go.Extern.Stop Go.Stop Go.Extern

theorem OwnA.empty (t : TypeId) (m : Nat) (w : World) (B : Nat) (hB : B ≤ w.heap.size) : OwnA t m (w.alloc (.cells #[] t)) B (some ⟨w.heap.size, 0, none⟩) 0 0 [] :=
  ⟨fun _ h => absurd h List.not_mem_nil, rfl, Nat.le_refl _, Nat.zero_le _, (fun e => by cases e), fun ad e => by cases e; exact ⟨w.heap.size, 0, #[], rfl, hB, heap_alloc_new _ _, by simp, fun j u hj => by simp at hj⟩⟩
theorem ne_self (m : M13) (w : World) : (binOp .neq 32 (.agg (mv m)) (.agg (mv m))).run Tryd.prog w = .ok (.bool false) w := by
  have := ne_msg m m w
  rwa [(eqB_iff _ _).2 rfl] at this
/-- A row of the call's own is written: the fabric stays. -/
theorem Lv.own {w wr w' : World} {q cs rm : Nat} {S : List Nat} {P : List (List M13)} (h : Lv w wr q S cs rm P) {row : Option Nat} (hg : wr.grownBy w' row) (hr : ∀ k, row = some k → k ∉ S ∧ w.heap.size ≤ k) : Lv w w' q S cs rm P := by
  have hf : Fr row.toList wr w' := Fr.of_grown hg (fun k e => by rw [e]; simp)
  refine ⟨h.f.fr hf (fun k hk hm => (hr k (Option.mem_toList.1 hm)).1 hk), h.lo, hf.below h.b (fun k hk => (hr k (Option.mem_toList.1 hk)).2) h.b.size⟩
/-- The message that is sent with a number. -/
def uM (i : Nat) : M13 := (8, 1, 0, 0, 0, 0, ((i % 4 : Nat) : Int), (i : Int), 0, 0, 0, 0, false)
theorem uM_ok {i : Nat} : okM 2 (uM i) = true := by
  unfold okM
  simp only [Bool.and_eq_true, decide_eq_true_eq, rtB_iff]
  refine ⟨?_, by simp [uM]⟩
  simp only [uM, rtP]
  refine ⟨by omega, by omega, by omega, .inl ⟨by decide, by omega, ?_⟩⟩
  simp
theorem uM_in {i : Nat} (h : i ≤ 30) : M32 (uM i) ∧ M64 (uM i) := by
  simp only [uM, M32, M64]
  omega
theorem uM_th (i : Nat) : thM 2 (uM i) = 4 := thM_of rfl
theorem o1_th (c : Int) : thM 2 (ofM 1 c) = 0 := thM_of rfl
theorem o1_ok (i : Nat) : okM 2 (ofM 1 ((i % 2 : Nat) : Int)) = true := ofM_ok (.inl rfl) (by omega) (by omega) (by omega)
theorem two_in {i : Nat} (h : i ≤ 30) : InB [uM i, ofM 1 ((i % 2 : Nat) : Int)] := fun m hm => by
  simp only [List.mem_cons, List.not_mem_nil, or_false] at hm
  rcases hm with rfl | rfl
  · exact uM_in h
  · exact ofM_in _ _ (by omega) (by omega) (by omega)
/-- While they are sent. -/
structure LInv (I i : Nat) (W : List M13) (P : List (List M13)) : Prop where
  w4 : P.getD 4 [] = W
  p0 : lenF P 0 = W.length
  p2 : lenF P 2 = 0
  all : allF P = 2 * W.length
  sum : W.length + i = I
theorem two_fits {I i : Nat} {W : List M13} {P : List (List M13)} (h : LInv I i W P) (hI : I ≤ 30) (hi : 1 ≤ i) (hP : P.length = 6) : fitsF 2 40 P [uM i, ofM 1 ((i % 2 : Nat) : Int)] = (0, 0) ∧ sentF 2 40 P [uM i, ofM 1 ((i % 2 : Nat) : Int)] = putF 2 (putF 2 P (uM i)) (ofM 1 ((i % 2 : Nat) : Int)) ∧ LInv I (i - 1) (W ++ [uM i]) (putF 2 (putF 2 P (uM i)) (ofM 1 ((i % 2 : Nat) : Int))) := by
  have h4 : lenF P 4 = W.length := by unfold lenF; rw [h.w4]
  have hs := h.sum
  have l1 : ∀ p, lenF (putF 2 P (uM i)) p = lenF P p + if 4 = p then 1 else 0 := fun p => by rw [lenF_putF (by rw [uM_th, hP]; omega), uM_th]
  have hP1 : (putF 2 P (uM i)).length = 6 := by rw [len_putF]; exact hP
  have l2 : ∀ p, lenF (putF 2 (putF 2 P (uM i)) (ofM 1 ((i % 2 : Nat) : Int))) p = lenF (putF 2 P (uM i)) p + if 0 = p then 1 else 0 := fun p => by rw [lenF_putF (by rw [o1_th, hP1]; omega), o1_th]
  have h1 : fitsF 2 40 P [uM i, ofM 1 ((i % 2 : Nat) : Int)] = (0, 0) := by
    refine fitsF_ok (badF_all (fun m hm => ?_)) ?_
    · simp only [List.mem_cons, List.not_mem_nil, or_false] at hm
      rcases hm with rfl | rfl
      · exact uM_ok
      · exact o1_ok i
    · unfold fullF
      rw [uM_th, h4, if_neg (by omega)]
      unfold fullF
      rw [o1_th, l1, h.p0, if_neg (by simp; omega)]
      rfl
  refine ⟨h1, by rw [sentF_ok (by rw [h1])]; rfl, ?_, ?_, ?_, ?_, ?_⟩
  · rw [putF_row (by rw [o1_th, hP1]; omega), putF_row (by rw [uM_th, hP]; omega), uM_th, o1_th, if_pos rfl, if_neg (by omega), h.w4, List.append_nil]
  · rw [l2, l1, h.p0, List.length_append]; simp
  · rw [l2, l1, h.p2]; simp
  · rw [allF_put (by rw [o1_th, hP1]; omega), allF_put (by rw [uM_th, hP]; omega), h.all, List.length_append, List.length_singleton]; omega
  · rw [List.length_append, List.length_singleton]; omega
/-- While they are taken. -/
structure TInv (n : Nat) (W : List M13) (P : List (List M13)) : Prop where
  w4 : P.getD 4 [] = W
  p0 : lenF P 0 = n
  p2 : lenF P 2 = 0
  all : allF P = n + W.length
theorem TInv.took {n k : Nat} {W : List M13} {P : List (List M13)} (h : TInv n W P) (hP : P.length = 6) (hk : k < W.length) : tookF 2 P 1 1 (k : Int) = P.set 4 (W.eraseIdx k) ∧ TInv n (W.eraseIdx k) (P.set 4 (W.eraseIdx k)) := by
  have h4 : lenF P 4 = W.length := by unfold lenF; rw [h.w4]
  refine ⟨by rw [tookF_in (i := 4) rfl (by rw [h4]; exact hk), h.w4], ?_, ?_, ?_, ?_⟩
  · simp [List.getD, hP]
  · rw [← h.p0]; unfold lenF; simp [List.getD]
  · rw [← h.p2]; unfold lenF; simp [List.getD]
  · have := allF_set (P := P) (i := 4) (L := W.eraseIdx k) (by omega)
    have h5 := h.all
    rw [h4] at this
    omega
theorem TInv.peek {n k : Nat} {W : List M13} {P : List (List M13)} {m : M13} (h : TInv n W P) (hm : W[k]? = some m) : peekF 2 P 1 1 (k : Int) = (m, true) := peekF_in (i := 4) rfl (by rw [h.w4]; exact hm)

set_option maxHeartbeats 3200000 in
set_option maxRecDepth 20000 in
theorem fabricTakes_any (w : World) (sa : Nat → Addr) (hE : Env10 w sa) (n0 : Int) (ao1 : Option Addr) (cap1 : Nat) (zs : List Int) (hI : Ints w ao1 cap1 zs) : Calls Tryd.prog 7 #[.int .i64 n0, .slice ao1 zs.length cap1] w fun r w' => r = .returned (.bool true) ∧ Below w.heap.size w w' := by
  obtain ⟨I, eI, hI1, hI2⟩ := wI_nat n0 0 30 (by omega) (by omega)
  have W0 := Hid.in (fun w => within_n n0 0 30 w (by omega) (by omega) (by omega) I eI)
  have HE := Hid.in hE
  have HI := Hid.in hI
  have hI2' : I ≤ 30 := by omega
  obtain ⟨K, hK⟩ : ∃ K, zs.length = K := ⟨_, rfl⟩
  rw [hK]
  have HK := Hid.in hK
  clear eI hE hI hK
  go_enter Tryd.func7, Tryd.ntmps7
  go_wp2_with fail
  refine (lvnew_c w 2 40 (by omega) (by omega) (by omega) (by omega)).mono ?_
  rintro r w1 ⟨q, S1, rfl, h1⟩
  have H1 := Hid.in h1
  clear h1
  go_wp2_with fail
  refine (W0.out _).mono ?_
  rintro r w2 ⟨rfl, rfl⟩
  go_wp2
  go_loopw [7, 8] (fun sl x wr => ∃ (i : Nat) (S : List Nat) (W : List M13) (P : List (List M13)) (ao : Option Addr) (N cap : Nat), i ≤ I ∧ x = .int .i64 (i : Int) ∧ sl = .slice ao N cap ∧ W.length = N ∧ LInv I i W P ∧ Lv w wr q S 2 40 P ∧ OwnA 32 13 wr w.heap.size ao N cap (W.map mc) ∧ (∀ k, oblk ao = some k → k ∉ S)) (fun _ x _ => (intOf x).toNat)
  case atStart => exact ⟨I, S1, [], noneF 2, none, 0, 0, Nat.le_refl _, rfl, rfl, rfl, ⟨rfl, rfl, rfl, rfl, by simp⟩, H1.out, OwnA.nil _ _ _ _, fun k hk => by cases hk⟩
  case round =>
    obtain ⟨i, S, W, P, ao, N, cap, hi, rfl, rfl, hN, hL, hv, hO, hf⟩ := hrel
    have HN := Hid.in hN
    have HL := Hid.in hL
    have HV := Hid.in hv
    have HO := Hid.in hO
    have HF := Hid.in hf
    have hNI : N + i = I := by rw [← hN]; exact hL.sum
    clear hN hL hv hO hf H1
    rename World => wo
    by_cases hlt : 0 < i
    · as_aux_lemma =>
        have ii : (0 : Int) < (i : Int) := by omega
        have ht4 : Int.tmod (i : Int) 4 = ((i % 4 : Nat) : Int) := by rw [Int.tmod_eq_emod_of_nonneg (by omega)]; omega
        have ht2 : Int.tmod (i : Int) 2 = ((i % 2 : Nat) : Int) := by rw [Int.tmod_eq_emod_of_nonneg (by omega)]; omega
        have hcv : IntKind.u32.wrap (i : Int) = (i : Int) := by simp only [IntKind.wrap, IntKind.bits, IntKind.signed]; simp; omega
        have HU : Hid (uM i = (8, 1, 0, 0, 0, 0, ((i % 4 : Nat) : Int), (i : Int), 0, 0, 0, 0, false)) := Hid.in rfl
        obtain ⟨r4, hr4⟩ : ∃ r4, ((i % 4 : Nat) : Int) = r4 := ⟨_, rfl⟩
        have HR4 := Hid.in hr4
        rw [hr4] at ht4 HU
        clear hr4
        go_upto_region 9 with fail
        generalize hW : (wo.alloc (.cells #[.int .i64 8, .int .i64 1, .int .i64 0, .int .i64 0, .int .i64 0, .int .i64 0, .int .i64 r4, .int .u32 (i : Int), .int .u32 0, .int .u32 0, .int .u32 0, .int .u32 0, .bool false] 32)) = W1
        have hBK : W1.heap[wo.heap.size]? = some (.cells #[.int .i64 8, .int .i64 1, .int .i64 0, .int .i64 0, .int .i64 0, .int .i64 0, .int .i64 r4, .int .u32 (i : Int), .int .u32 0, .int .u32 0, .int .u32 0, .int .u32 0, .bool false] 32 (0, 0)) := by rw [← hW]; exact heap_alloc_new _ _
        have hb1 : Below wo.heap.size wo W1 := by rw [← hW]; exact below_alloc _ _
        have HRg : Hid (W1.rangeAt wo.heap.size 0 (mc (uM i))) := Hid.in (fun j u hj => by
          rw [Nat.zero_add]
          refine blk_cell hBK ?_
          rw [HU.out, mc_eq] at hj
          simpa using hj)
        have HV1 := Hid.in (HV.out.step hb1)
        have HO1 := Hid.in (HO.out.step hb1)
        have HFar : Hid (wo.heap.size ∉ S) := Hid.in (HV.out.f.far (Nat.le_refl _))
        have HFit := Hid.in (two_fits HL.out hI2' (by omega) HV.out.f.ok.len)
        clear hW hBK hb1 HV HO ht4 hcv
        obtain ⟨r2, hr2⟩ : ∃ r2, ((i % 2 : Nat) : Int) = r2 := ⟨_, rfl⟩
        have HIn2 : Hid (InB [uM i, ofM 1 r2]) := Hid.in (by rw [← hr2]; exact two_in (by omega))
        rw [hr2] at ht2 HFit
        clear hr2
        refine wp_region_but (fun X => X.rangeAt wo.heap.size 0 (mc (uM i))) 7 (by kernel_rfl) ?_
        have HS : Hid (W1.drew.rangeAt wo.heap.size 0 (mc (uM i))) := Hid.in (rangeAt_step HRg.out (Below.refl _ _).drew)
        refine wpBut_take (i := 0) (v := ?_) rfl (by kernel_rfl) (by kernel_rfl) (by exact fun _ _ _ h => h) HS.out (Or.inl ⟨by rfl, ?_⟩) ?_
        case refine_2 => (intro w _; go_simp; try with_reducible rfl)
        simp only [Act.put, List.setIfInBounds_toArray, List.set_cons_zero, List.set_cons_succ]
        refine wpBut_take (i := 2) (v := ?_) rfl (by kernel_rfl) (by kernel_rfl) (by exact fun _ _ _ h => h) HS.out (Or.inl ⟨by rfl, ?_⟩) ?_
        case refine_2 => (intro w _; go_simp; try with_reducible rfl)
        simp only [Act.put, List.setIfInBounds_toArray, List.set_cons_zero, List.set_cons_succ]
        refine wpBut_take (i := 3) (v := ?_) rfl (by kernel_rfl) (by kernel_rfl) (by exact fun _ _ _ h => h) HS.out (Or.inl ⟨by rfl, ?_⟩) ?_
        case refine_2 => (intro w _; go_simp; try with_reducible rfl)
        simp only [Act.put, List.setIfInBounds_toArray, List.set_cons_zero, List.set_cons_succ]
        refine wpBut_take (i := 1) (v := .agg (mc (uM i)).toArray) rfl (by kernel_rfl) (by kernel_rfl) (by exact fun _ _ _ h => h) HS.out ?hy12 ?_
        case hy12 => exact yieldsIf_load_mid (by rfl) 32 (.tmp 9) rfl wo.heap.size 0 rfl (mc (uM i)) _ (fun X h => h) Tryd.underlying32 rfl (by rw [mc_len]; exact Tryd.sizeMsg)
        simp only [Act.put, List.setIfInBounds_toArray, List.set_cons_zero, List.set_cons_succ, mc_arr]
        refine wpBut_one (i := 4) rfl (by kernel_rfl) (fun K HK => ?_)
        go_simp
        refine (fbof_c 1 r2 _).mono ?_
        rintro r wA ⟨rfl, hbA⟩
        have HVA := Hid.in ((HV1.out.step (Below.refl _ _).drew).step hbA)
        have HOA := Hid.in ((HO1.out.step (Below.refl _ _).drew).step hbA)
        have HRA := Hid.in (rangeAt_step HS.out hbA)
        refine HK.out _ _ (fun _ => HRA.out) ?_
        try simp only [Act.put, List.setIfInBounds_toArray, List.set_cons_zero, List.set_cons_succ]
        clear HK K HS hbA HV1 HO1 HRg
        refine wpBut_one (i := 5) rfl (by kernel_rfl) (fun K HK => ?_)
        refine step_build2 rfl (.tmp 42) (.tmp 45) rfl (uM i) (ofM 1 r2) rfl rfl ?_
        refine HK.out _ _ (fun _ => rangeAt_step HRA.out (below_alloc _ _)) ?_
        simp only [Act.put, List.setIfInBounds_toArray, List.set_cons_zero, List.set_cons_succ]
        clear HK K
        refine wpBut_one (i := 6) rfl (by kernel_rfl) (fun K HK => ?_)
        go_simp
        have hsend := lvsend_f w wA sa HE.out q 2 40 S P HVA.out [uM i, ofM 1 r2] HIn2.out 2 rfl (by omega) 0 0 0 rfl _ HFit.out.1 HFit.out.2.1
        rw [perr_none] at hsend
        refine hsend.mono ?_
        clear hsend
        rintro r w4 ⟨rfl, S4, hv4, hbe⟩
        have HV4 := Hid.in hv4
        have HR4' := Hid.in (rangeAt_fr HRA.out hbe.f HFar.out)
        obtain ⟨ho4, hf4⟩ := hbe.row HOA.out HF.out
        have HO4 := Hid.in ho4
        have HF4 := Hid.in hf4
        refine HK.out _ _ (fun _ => HR4'.out) ?_
        try simp only [Act.put, List.setIfInBounds_toArray, List.set_cons_zero, List.set_cons_succ]
        clear HK K hv4 hbe ho4 hf4 HVA HOA HRA
        refine wpBut_one (i := 7) rfl (by kernel_rfl) (fun K HK => ?_)
        go_simp
        refine HK.out _ _ (fun h => absurd rfl h) ?_
        clear HK K
        refine wpBut_done (by kernel_rfl) ?_ _
        have hNl : N + 1 ≤ 1000000 := by omega
        have hB4 : w.heap.size ≤ (w4.alloc (.cells (lits [uM i]) 32)).heap.size := Nat.le_trans HV4.out.b.size (below_alloc _ _).size
        go_wp2_with (first | (refine wpList_load_mid rfl 32 (.tmp 9) rfl wo.heap.size 0 rfl (mc (uM i)) _ HR4'.out Tryd.underlying32 rfl (by rw [mc_len]; exact Tryd.sizeMsg) ?_; simp only [mc_arr]) | (refine wpList_build1 rfl (.tmp 50) rfl (uM i) rfl ?_) | (at_builtin; refine wpList_concatA rfl 44 32 13 80 _ (.tmp 49) (.tmp 51) rfl Tryd.underlying44 Tryd.infoMsg rfl (by decide) (by decide) w.heap.size ao (some ⟨w4.heap.size, 0, none⟩) N cap 1 1 (W.map mc) [mc (uM i)] rfl (HO4.out.step (below_alloc _ _)) rfl rfl (Rows'.lits w4 [uM i]) hB4 hNl ?_; intro ao3 cap3 w5 HO5 HG5 HN5 _) | fail)
        have HV5 := Hid.in (Lv.own (HV4.out.step (below_alloc _ _)) HG5.out (fun k hk => ⟨HF4.out k hk, (HO4.out.blk k hk).1⟩))
        have HF5 : Hid (∀ k, oblk ao3 = some k → k ∉ S4) := Hid.in (fun k hk => by
          rcases HN5.out k hk with h1 | h1
          · exact HF4.out k h1
          · exact (HV4.out.step (below_alloc _ _)).f.far h1)
        clear hNl hB4 HG5 HN5 HO4 HF4 HV4
        go_roundw
        case rel => exact ⟨i - 1, S4, W ++ [uM i], _, ao3, N + 1, cap3, by omega, by first | go_num | exact congrArg (Value.int .i64) (by omega), rfl, by rw [List.length_append, List.length_singleton, HN.out], HFit.out.2.2, HV5.out, by rw [List.map_append]; exact HO5.out, HF5.out⟩
        case measure => simp [intOf]; omega
    · as_aux_lemma =>
        obtain rfl : i = 0 := by omega
        have HT : Hid (TInv N W P) := Hid.in ⟨HL.out.w4, by rw [HL.out.p0, HN.out], HL.out.p2, by rw [HL.out.all, HN.out]; omega⟩
        have hN30 : N ≤ 30 := by omega
        clear HL
        obtain ⟨M, hM⟩ : ∃ M, M = N := ⟨_, rfl⟩
        go_wp2
        go_loopw [7, 11] (fun sl x wr => ∃ (i : Nat) (S : List Nat) (W : List M13) (P : List (List M13)) (ao : Option Addr) (N' cap : Nat), N' + i = N ∧ x = .int .i64 (i : Int) ∧ sl = .slice ao N' cap ∧ W.length = N' ∧ TInv N W P ∧ Lv w wr q S 2 40 P ∧ OwnA 32 13 wr w.heap.size ao N' cap (W.map mc) ∧ (∀ k, oblk ao = some k → k ∉ S)) (fun _ x _ => 40 - (intOf x).toNat)
        case atStart => exact ⟨0, S, W, P, ao, N, cap, rfl, rfl, rfl, HN.out, HT.out, HV.out, HO.out, HF.out⟩
        case round =>
          obtain ⟨i, S2, W2, P2, ao2, N2, cap2, hsum, rfl, rfl, hN2, hT2, hv2, hO2, hf2⟩ := hrel
          have HN2 := Hid.in hN2
          have HT2 := Hid.in hT2
          have HV2 := Hid.in hv2
          have HO2 := Hid.in hO2
          have HF2 := Hid.in hf2
          clear hN2 hT2 hv2 hO2 hf2 HN HT HV HO HF hM
          by_cases hpos : 0 < N2
          · as_aux_lemma =>
              have ip : (0 : Int) < (N2 : Int) := by omega
              go_upto_if 63 with fail
              go_cut [12] (fun v wx => ∃ kk : Nat, v = .int .i64 (kk : Int) ∧ kk < N2 ∧ wx = wr)
              case first =>
                by_cases hiK : i < K
                · obtain ⟨b1, o1, rfl, hz⟩ := HI.out.cell i (by rw [HK.out]; exact hiK)
                  have hz1 : wr.cell? ⟨b1, o1 + i, none⟩ = some (.int .i64 (zs[i]'(by rw [HK.out]; exact hiK))) := (HV2.out.b.cell (p := ⟨b1, o1 + i, none⟩) (lt_cell (q := ⟨b1, o1 + i, none⟩) hz)).trans hz
                  generalize zs[i]'(by rw [HK.out]; exact hiK) = z at hz1
                  have iK : (i : Int) < (K : Int) := by omega
                  obtain ⟨kk, ek, hk1, hk2⟩ := wI_nat z 0 ((N2 : Int) - 1) (by omega) (by omega)
                  have hwm : IntKind.i64.wrap ((N2 : Int) - 1) = (N2 : Int) - 1 := wrapI (by omega) (by omega)
                  obtain ⟨N1, hN1⟩ : ∃ N1, (N2 : Int) - 1 = N1 := ⟨_, rfl⟩
                  have HW := Hid.in (fun w => within_n z 0 ((N2 : Int) - 1) w (by omega) (by omega) (by omega) kk ek)
                  rw [hN1] at HW
                  have hwm1 : IntKind.i64.wrap ((N2 : Int) - 1) = N1 := by rw [hwm, hN1]
                  have hkl : kk < N2 := by omega
                  clear hz hwm hN1 ek hk1 hk2
                  go_wp2_with fail
                  refine (HW.out _).mono ?_
                  rintro r wx ⟨rfl, rfl⟩
                  go_wp2
                  go_meet
                  case rel => exact ⟨kk, rfl, hkl, rfl⟩
                · have iK : ¬ (i : Int) < (K : Int) := by omega
                  go_wp2
                  go_meet
                  case rel => exact ⟨0, rfl, hpos, rfl⟩
              case rest =>
                obtain ⟨kk, rfl, hkk, hwx⟩ := hcut
                rename World => wc
                subst hwx
                rename World => wr
                obtain ⟨m, hm⟩ : ∃ m, W2[kk]? = some m := ⟨_, List.getElem?_eq_getElem (by rw [HN2.out]; exact hkk)⟩
                have HTk := Hid.in (HT2.out.took HV2.out.f.ok.len (by rw [HN2.out]; exact hkk))
                have HPk := Hid.in (HT2.out.peek hm)
                have HMm := Hid.in hm
                clear hm
                go_wp2_with fail
                refine (lvtake_f w wr q 2 40 S2 P2 HV2.out 1 1 (kk : Int) m true HPk.out _ HTk.out.1).mono ?_
                rintro r v1 ⟨rfl, S3, hv3, hbe⟩
                obtain ⟨ho3, hf3⟩ := hbe.row HO2.out HF2.out
                have HV3 := Hid.in hv3
                have HO3 := Hid.in ho3
                have HF3 := Hid.in hf3
                clear hv3 ho3 hf3 hbe HV2 HO2 HF2
                go_upto_region 20 with (first | (refine wpList_store_mid rfl 32 (.tmp 13) (.tmp 76) rfl v1.heap.size 0 (mv m) rfl rfl (there_zero v1 m) (Tryd.sizeMv _) (mv_one _) ?_; generalize hu1 : (v1.alloc _).setCells v1.heap.size 0 (mv m).toList = u1) | fail)
                have Ru1 : Hid (u1.rangeAt v1.heap.size 0 (mc m)) := Hid.in (by rw [← hu1]; exact World.rangeAt_setCells_same _ _ _ _ (by rw [Array.length_toList]; exact there_zero v1 m))
                have Gu1 : Hid (Below v1.heap.size v1 u1) := Hid.in (by
                  have hg : v1.grownBy u1 (some v1.heap.size) := by rw [← hu1]; exact grown_trans' (grown_of_below (below_alloc _ _) _) (grown_setCells _ _ _ _)
                  exact ⟨hg.os, hg.tape, hg.output, hg.size, fun k hk => hg.block k hk (fun e => by cases e; omega)⟩)
                clear hu1
                have HV4 := Hid.in (HV3.out.step Gu1.out)
                have HO4 := Hid.in (HO3.out.step Gu1.out)
                clear HV3 HO3 Gu1
                obtain ⟨ob, oo, m', rfl, hm', hRm⟩ := HO4.out.msg kk (by rw [HN2.out]; exact hkk)
                rw [HMm.out] at hm'
                cases hm'
                have HM := Hid.in hRm
                clear hRm
                obtain ⟨a0, a1, a2, a3, a4, a5, a6, a7, a8, a9, a10, a11, a12⟩ := m
                have ik : (kk : Int) < (N2 : Int) := by omega
                have hne : ∀ w', (binOp .neq 32 (.agg #[.int .i64 a0, .int .i64 a1, .int .i64 a2, .int .i64 a3, .int .i64 a4, .int .i64 a5, .int .i64 a6, .int .u32 a7, .int .u32 a8, .int .u32 a9, .int .u32 a10, .int .u32 a11, .bool a12]) (.agg #[.int .i64 a0, .int .i64 a1, .int .i64 a2, .int .i64 a3, .int .i64 a4, .int .i64 a5, .int .i64 a6, .int .u32 a7, .int .u32 a8, .int .u32 a9, .int .u32 a10, .int .u32 a11, .bool a12])).run Tryd.prog w' = .ok (.bool false) w' := fun w' => ne_self (a0, a1, a2, a3, a4, a5, a6, a7, a8, a9, a10, a11, a12) w'
                have n0 : ∀ n : Kin (fun X => Below u1.heap.size u1 X), n.of.cell? ⟨v1.heap.size, 0, none⟩ = some (.int .i64 a0) := fun n => (n.in.cell (p := ⟨v1.heap.size, 0, none⟩) (lt_cell (Ru1.out 0 _ rfl))).trans (by have h := Ru1.out 0 _ rfl; rw [Nat.zero_add] at h; exact h)
                have n1 : ∀ n : Kin (fun X => Below u1.heap.size u1 X), n.of.cell? ⟨v1.heap.size, 1, none⟩ = some (.int .i64 a1) := fun n => (n.in.cell (p := ⟨v1.heap.size, 1, none⟩) (lt_cell (Ru1.out 1 _ rfl))).trans (by have h := Ru1.out 1 _ rfl; rw [Nat.zero_add] at h; exact h)
                have n2 : ∀ n : Kin (fun X => Below u1.heap.size u1 X), n.of.cell? ⟨v1.heap.size, 2, none⟩ = some (.int .i64 a2) := fun n => (n.in.cell (p := ⟨v1.heap.size, 2, none⟩) (lt_cell (Ru1.out 2 _ rfl))).trans (by have h := Ru1.out 2 _ rfl; rw [Nat.zero_add] at h; exact h)
                have n3 : ∀ n : Kin (fun X => Below u1.heap.size u1 X), n.of.cell? ⟨v1.heap.size, 3, none⟩ = some (.int .i64 a3) := fun n => (n.in.cell (p := ⟨v1.heap.size, 3, none⟩) (lt_cell (Ru1.out 3 _ rfl))).trans (by have h := Ru1.out 3 _ rfl; rw [Nat.zero_add] at h; exact h)
                have n4 : ∀ n : Kin (fun X => Below u1.heap.size u1 X), n.of.cell? ⟨v1.heap.size, 4, none⟩ = some (.int .i64 a4) := fun n => (n.in.cell (p := ⟨v1.heap.size, 4, none⟩) (lt_cell (Ru1.out 4 _ rfl))).trans (by have h := Ru1.out 4 _ rfl; rw [Nat.zero_add] at h; exact h)
                have n5 : ∀ n : Kin (fun X => Below u1.heap.size u1 X), n.of.cell? ⟨v1.heap.size, 5, none⟩ = some (.int .i64 a5) := fun n => (n.in.cell (p := ⟨v1.heap.size, 5, none⟩) (lt_cell (Ru1.out 5 _ rfl))).trans (by have h := Ru1.out 5 _ rfl; rw [Nat.zero_add] at h; exact h)
                have n6 : ∀ n : Kin (fun X => Below u1.heap.size u1 X), n.of.cell? ⟨v1.heap.size, 6, none⟩ = some (.int .i64 a6) := fun n => (n.in.cell (p := ⟨v1.heap.size, 6, none⟩) (lt_cell (Ru1.out 6 _ rfl))).trans (by have h := Ru1.out 6 _ rfl; rw [Nat.zero_add] at h; exact h)
                have n7 : ∀ n : Kin (fun X => Below u1.heap.size u1 X), n.of.cell? ⟨v1.heap.size, 7, none⟩ = some (.int .u32 a7) := fun n => (n.in.cell (p := ⟨v1.heap.size, 7, none⟩) (lt_cell (Ru1.out 7 _ rfl))).trans (by have h := Ru1.out 7 _ rfl; rw [Nat.zero_add] at h; exact h)
                have n8 : ∀ n : Kin (fun X => Below u1.heap.size u1 X), n.of.cell? ⟨v1.heap.size, 8, none⟩ = some (.int .u32 a8) := fun n => (n.in.cell (p := ⟨v1.heap.size, 8, none⟩) (lt_cell (Ru1.out 8 _ rfl))).trans (by have h := Ru1.out 8 _ rfl; rw [Nat.zero_add] at h; exact h)
                have n9 : ∀ n : Kin (fun X => Below u1.heap.size u1 X), n.of.cell? ⟨v1.heap.size, 9, none⟩ = some (.int .u32 a9) := fun n => (n.in.cell (p := ⟨v1.heap.size, 9, none⟩) (lt_cell (Ru1.out 9 _ rfl))).trans (by have h := Ru1.out 9 _ rfl; rw [Nat.zero_add] at h; exact h)
                have n10 : ∀ n : Kin (fun X => Below u1.heap.size u1 X), n.of.cell? ⟨v1.heap.size, 10, none⟩ = some (.int .u32 a10) := fun n => (n.in.cell (p := ⟨v1.heap.size, 10, none⟩) (lt_cell (Ru1.out 10 _ rfl))).trans (by have h := Ru1.out 10 _ rfl; rw [Nat.zero_add] at h; exact h)
                have n11 : ∀ n : Kin (fun X => Below u1.heap.size u1 X), n.of.cell? ⟨v1.heap.size, 11, none⟩ = some (.int .u32 a11) := fun n => (n.in.cell (p := ⟨v1.heap.size, 11, none⟩) (lt_cell (Ru1.out 11 _ rfl))).trans (by have h := Ru1.out 11 _ rfl; rw [Nat.zero_add] at h; exact h)
                have n12 : ∀ n : Kin (fun X => Below u1.heap.size u1 X), n.of.cell? ⟨v1.heap.size, 12, none⟩ = some (.bool a12) := fun n => (n.in.cell (p := ⟨v1.heap.size, 12, none⟩) (lt_cell (Ru1.out 12 _ rfl))).trans (by have h := Ru1.out 12 _ rfl; rw [Nat.zero_add] at h; exact h)
                have m0 : ∀ n : Kin (fun X => Below u1.heap.size u1 X), n.of.cell? ⟨ob, oo + kk * 13, none⟩ = some (.int .i64 a0) := fun n => (n.in.cell (p := ⟨ob, oo + kk * 13, none⟩) (lt_cell (HM.out 0 _ rfl))).trans (HM.out 0 _ rfl)
                have m1 : ∀ n : Kin (fun X => Below u1.heap.size u1 X), n.of.cell? ⟨ob, oo + kk * 13 + 1, none⟩ = some (.int .i64 a1) := fun n => (n.in.cell (p := ⟨ob, oo + kk * 13 + 1, none⟩) (lt_cell (HM.out 1 _ rfl))).trans (HM.out 1 _ rfl)
                have m2 : ∀ n : Kin (fun X => Below u1.heap.size u1 X), n.of.cell? ⟨ob, oo + kk * 13 + 2, none⟩ = some (.int .i64 a2) := fun n => (n.in.cell (p := ⟨ob, oo + kk * 13 + 2, none⟩) (lt_cell (HM.out 2 _ rfl))).trans (HM.out 2 _ rfl)
                have m3 : ∀ n : Kin (fun X => Below u1.heap.size u1 X), n.of.cell? ⟨ob, oo + kk * 13 + 3, none⟩ = some (.int .i64 a3) := fun n => (n.in.cell (p := ⟨ob, oo + kk * 13 + 3, none⟩) (lt_cell (HM.out 3 _ rfl))).trans (HM.out 3 _ rfl)
                have m4 : ∀ n : Kin (fun X => Below u1.heap.size u1 X), n.of.cell? ⟨ob, oo + kk * 13 + 4, none⟩ = some (.int .i64 a4) := fun n => (n.in.cell (p := ⟨ob, oo + kk * 13 + 4, none⟩) (lt_cell (HM.out 4 _ rfl))).trans (HM.out 4 _ rfl)
                have m5 : ∀ n : Kin (fun X => Below u1.heap.size u1 X), n.of.cell? ⟨ob, oo + kk * 13 + 5, none⟩ = some (.int .i64 a5) := fun n => (n.in.cell (p := ⟨ob, oo + kk * 13 + 5, none⟩) (lt_cell (HM.out 5 _ rfl))).trans (HM.out 5 _ rfl)
                have m6 : ∀ n : Kin (fun X => Below u1.heap.size u1 X), n.of.cell? ⟨ob, oo + kk * 13 + 6, none⟩ = some (.int .i64 a6) := fun n => (n.in.cell (p := ⟨ob, oo + kk * 13 + 6, none⟩) (lt_cell (HM.out 6 _ rfl))).trans (HM.out 6 _ rfl)
                have m7 : ∀ n : Kin (fun X => Below u1.heap.size u1 X), n.of.cell? ⟨ob, oo + kk * 13 + 7, none⟩ = some (.int .u32 a7) := fun n => (n.in.cell (p := ⟨ob, oo + kk * 13 + 7, none⟩) (lt_cell (HM.out 7 _ rfl))).trans (HM.out 7 _ rfl)
                have m8 : ∀ n : Kin (fun X => Below u1.heap.size u1 X), n.of.cell? ⟨ob, oo + kk * 13 + 8, none⟩ = some (.int .u32 a8) := fun n => (n.in.cell (p := ⟨ob, oo + kk * 13 + 8, none⟩) (lt_cell (HM.out 8 _ rfl))).trans (HM.out 8 _ rfl)
                have m9 : ∀ n : Kin (fun X => Below u1.heap.size u1 X), n.of.cell? ⟨ob, oo + kk * 13 + 9, none⟩ = some (.int .u32 a9) := fun n => (n.in.cell (p := ⟨ob, oo + kk * 13 + 9, none⟩) (lt_cell (HM.out 9 _ rfl))).trans (HM.out 9 _ rfl)
                have m10 : ∀ n : Kin (fun X => Below u1.heap.size u1 X), n.of.cell? ⟨ob, oo + kk * 13 + 10, none⟩ = some (.int .u32 a10) := fun n => (n.in.cell (p := ⟨ob, oo + kk * 13 + 10, none⟩) (lt_cell (HM.out 10 _ rfl))).trans (HM.out 10 _ rfl)
                have m11 : ∀ n : Kin (fun X => Below u1.heap.size u1 X), n.of.cell? ⟨ob, oo + kk * 13 + 11, none⟩ = some (.int .u32 a11) := fun n => (n.in.cell (p := ⟨ob, oo + kk * 13 + 11, none⟩) (lt_cell (HM.out 11 _ rfl))).trans (HM.out 11 _ rfl)
                have m12 : ∀ n : Kin (fun X => Below u1.heap.size u1 X), n.of.cell? ⟨ob, oo + kk * 13 + 12, none⟩ = some (.bool a12) := fun n => (n.in.cell (p := ⟨ob, oo + kk * 13 + 12, none⟩) (lt_cell (HM.out 12 _ rfl))).trans (HM.out 12 _ rfl)
                refine wp_region_kin (C := fun X => Below u1.heap.size u1 X) (by kernel_rfl) (by kernel_rfl) (Below.refl _ _).drew (fun hne' => ?_)
                repeat (go_big_quiet_step (fail))
                refine wpQuiet_nil ?_
                rintro wq ⟨x, rfl⟩
                have hxq := x.in
                generalize x.of = wq at hxq
                have HXQ := Hid.in hxq
                clear hxq hne n0 n1 n2 n3 n4 n5 n6 n7 n8 n9 n10 n11 n12 m0 m1 m2 m3 m4 m5 m6 m7 m8 m9 m10 m11 m12
                have HV5 := Hid.in (HV4.out.step HXQ.out)
                have HO5 := Hid.in (HO4.out.step HXQ.out)
                clear HV4 HO4 HXQ HM Ru1
                go_upto_region 22 with fail
                have hle := HO5.out.le
                have hmx : (cap2 : Int) ≤ 9223372036854775807 := by have := HO5.out.max; unfold maxLen at this; omega
                have hs1 := slice_toM ob oo N2 cap2 kk (by omega)
                obtain ⟨j1, hj1⟩ : ∃ j1, kk + 1 = j1 := ⟨_, rfl⟩
                have hs2 := slice_fromM ob oo N2 cap2 j1 (by omega)
                have HLn := HN2.out
                have HT' : Hid (OwnA 32 13 wq w.heap.size (some (if cap2 = j1 then ⟨ob, oo, none⟩ else ⟨ob, oo + j1 * 13, none⟩)) (N2 - j1) (cap2 - j1) ((W2.drop j1).map mc)) := Hid.in (by
                  rw [List.map_drop]
                  by_cases hc : cap2 = j1
                  · rw [if_pos hc]
                    have e1 : N2 - j1 = 0 := by omega
                    have e2 : cap2 - j1 = 0 := by omega
                    rw [e1, e2, List.drop_eq_nil_of_le (by rw [List.length_map]; omega)]
                    exact HO5.out.gone
                  · rw [if_neg hc]
                    exact HO5.out.drop j1 (by omega))
                obtain ⟨A, hA⟩ : ∃ A, (if cap2 = j1 then (⟨ob, oo, none⟩ : Addr) else ⟨ob, oo + j1 * 13, none⟩) = A := ⟨_, rfl⟩
                obtain ⟨r1, hr1⟩ : ∃ r1, N2 - j1 = r1 := ⟨_, rfl⟩
                obtain ⟨c1, hc1⟩ : ∃ c1, cap2 - j1 = c1 := ⟨_, rfl⟩
                rw [hA, hr1, hc1] at hs2 HT'
                have hkj : IntKind.i64.wrap ((kk : Int) + 1) = (j1 : Int) := by rw [wrapI (by omega) (by omega)]; omega
                have hk6 : 0 + kk ≤ 1000000 := by omega
                have hk7 : 0 + kk + r1 ≤ 1000000 := by omega
                have HK1 : Hid (0 + kk + r1 + 1 = N2) := Hid.in (by omega)
                have HT1 : Hid (OwnA 32 13 wq w.heap.size (some ⟨ob, oo, none⟩) kk cap2 ((W2.take kk).map mc)) := Hid.in (by rw [List.map_take]; exact HO5.out.take kk (by omega))
                have HL1 : Hid (kk = ((W2.take kk).map mc).length) := Hid.in (by rw [List.length_map, List.length_take]; omega)
                have HL2 : Hid (r1 = ((W2.drop j1).map mc).length) := Hid.in (by rw [List.length_map, List.length_drop]; omega)
                have HEr : Hid ((W2.eraseIdx kk).map mc = [] ++ (W2.take kk).map mc ++ (W2.drop j1).map mc) := Hid.in (by rw [List.eraseIdx_eq_take_drop_succ, List.map_append, hj1, List.nil_append])
                have HLE : Hid ((W2.eraseIdx kk).length = 0 + kk + r1) := Hid.in (by rw [List.length_eraseIdx, if_pos (by omega)]; omega)
                have hBw : w.heap.size ≤ wq.drew.heap.size := by have := HV5.out.b.size; simpa using this
                clear hA hr1 hc1 hj1 hle HLn HO5
                refine wp_region_but (fun _ => True) 10 (by kernel_rfl) ?_
                have HS : Hid (True) := Hid.in trivial
                refine wpBut_take (i := 1) (v := ?_) rfl (by kernel_rfl) (by kernel_rfl) (by exact fun _ _ _ h => h) HS.out (Or.inl ⟨by rfl, ?_⟩) ?_
                case refine_2 => (intro w _; go_simp; try with_reducible rfl)
                simp only [Act.put, List.setIfInBounds_toArray, List.set_cons_zero, List.set_cons_succ]
                refine wpBut_take (i := 2) (v := ?_) rfl (by kernel_rfl) (by kernel_rfl) (by exact fun _ _ _ h => h) HS.out (Or.inl ⟨by rfl, ?_⟩) ?_
                case refine_2 => (intro w _; go_simp; try with_reducible rfl)
                simp only [Act.put, List.setIfInBounds_toArray, List.set_cons_zero, List.set_cons_succ]
                refine wpBut_take (i := 3) (v := ?_) rfl (by kernel_rfl) (by kernel_rfl) (by exact fun _ _ _ h => h) HS.out (Or.inl ⟨by rfl, ?_⟩) ?_
                case refine_2 => (intro w _; go_simp; try with_reducible rfl)
                simp only [Act.put, List.setIfInBounds_toArray, List.set_cons_zero, List.set_cons_succ]
                refine wpBut_take (i := 5) (v := ?_) rfl (by kernel_rfl) (by kernel_rfl) (by exact fun _ _ _ h => h) HS.out (Or.inl ⟨by rfl, ?_⟩) ?_
                case refine_2 => (intro w _; go_simp; try with_reducible rfl)
                simp only [Act.put, List.setIfInBounds_toArray, List.set_cons_zero, List.set_cons_succ]
                refine wpBut_take (i := 6) (v := ?_) rfl (by kernel_rfl) (by kernel_rfl) (by exact fun _ _ _ h => h) HS.out (Or.inl ⟨by rfl, ?_⟩) ?_
                case refine_2 => (intro w _; go_simp; try with_reducible rfl)
                simp only [Act.put, List.setIfInBounds_toArray, List.set_cons_zero, List.set_cons_succ]
                refine wpBut_take (i := 7) (v := ?_) rfl (by kernel_rfl) (by kernel_rfl) (by exact fun _ _ _ h => h) HS.out (Or.inl ⟨by rfl, ?_⟩) ?_
                case refine_2 => (intro w _; go_simp; try with_reducible rfl)
                simp only [Act.put, List.setIfInBounds_toArray, List.set_cons_zero, List.set_cons_succ]
                refine wpBut_take (i := 8) (v := ?_) rfl (by kernel_rfl) (by kernel_rfl) (by exact fun _ _ _ h => h) HS.out (Or.inl ⟨by rfl, ?_⟩) ?_
                case refine_2 => (intro w _; go_simp; try with_reducible rfl)
                simp only [Act.put, List.setIfInBounds_toArray, List.set_cons_zero, List.set_cons_succ]
                refine wpBut_one (i := 0) rfl (by kernel_rfl) (fun K HK => ?_)
                go_simp
                refine HK.out _ _ (fun _ => trivial) ?_
                try simp only [Act.put, List.setIfInBounds_toArray, List.set_cons_zero, List.set_cons_succ]
                clear HK K
                refine wpBut_one (i := 4) rfl (by kernel_rfl) (fun K HK => ?_)
                refine step_concatA rfl 44 32 13 80 _ (.tmp 88) (.tmp 91) rfl Tryd.underlying44 Tryd.infoMsg rfl (by decide) (by decide) w.heap.size (some ⟨wq.drew.heap.size, 0, none⟩) (some ⟨ob, oo, none⟩) 0 0 kk cap2 [] _ rfl (OwnA.empty _ _ _ _ hBw) rfl HL1.out (OwnA.rows (HT1.out.step (bstep (Below.refl _ _).drew (by simp) (below_alloc _ _))) (mcs_one _)) (Nat.le_trans hBw (below_alloc _ _).size) hk6 ?_
                intro ao3 cap3 w5 HO5 HG5 HN5 _
                have HG5' : Hid (Below wq.heap.size wq w5) := Hid.in (by
                  have hb0 : Below wq.heap.size wq (wq.drew.alloc (.cells #[] 32)) := (Below.refl wq.heap.size wq).drew.alloc (Nat.le_refl _) _
                  exact ⟨HG5.out.os.trans hb0.os, HG5.out.tape.trans hb0.tape, HG5.out.output.trans hb0.output, Nat.le_trans hb0.size HG5.out.size, fun k hk => (HG5.out.block k (Nat.lt_of_lt_of_le hk hb0.size) (fun e => by cases e; simp at hk)).trans (hb0.block k hk)⟩)
                have HN5' : Hid (∀ b, oblk ao3 = some b → wq.heap.size ≤ b) := Hid.in (fun b hb => by
                  rcases HN5.out b hb with h1 | h1
                  · cases h1; simp
                  · simp at h1; omega)
                refine HK.out _ _ (fun _ => trivial) ?_
                try simp only [Act.put, List.setIfInBounds_toArray, List.set_cons_zero, List.set_cons_succ]
                clear HK K HG5 HN5
                refine wpBut_one (i := 9) rfl (by kernel_rfl) (fun K HK => ?_)
                refine step_concatA rfl 44 32 13 80 _ (.tmp 92) (.tmp 96) rfl Tryd.underlying44 Tryd.infoMsg rfl (by decide) (by decide) w.heap.size ao3 (some A) (0 + kk) cap3 r1 c1 _ _ rfl HO5.out rfl HL2.out (OwnA.rows (HT'.out.step HG5'.out) (mcs_one _)) (Nat.le_trans HV5.out.b.size HG5'.out.size) hk7 ?_
                intro ao4 cap4 w6 HO6 HG6 HN6 _
                have HG6' : Hid (Below wq.heap.size wq w6) := Hid.in ⟨HG6.out.os.trans HG5'.out.os, HG6.out.tape.trans HG5'.out.tape, HG6.out.output.trans HG5'.out.output, Nat.le_trans HG5'.out.size HG6.out.size, fun k hk => (HG6.out.block k (Nat.lt_of_lt_of_le hk HG5'.out.size) (fun e => by have := HN5'.out k e.symm; omega)).trans (HG5'.out.block k hk)⟩
                have HN6' : Hid (∀ b, oblk ao4 = some b → wq.heap.size ≤ b) := Hid.in (fun b hb => by
                  rcases HN6.out b hb with h1 | h1
                  · exact HN5'.out b h1
                  · exact Nat.le_trans HG5'.out.size h1)
                refine HK.out _ _ (fun _ => trivial) ?_
                try simp only [Act.put, List.setIfInBounds_toArray, List.set_cons_zero, List.set_cons_succ]
                clear HK K HG6 HN6
                refine wpBut_one (i := 10) rfl (by kernel_rfl) (fun K HK => ?_)
                go_simp
                refine HK.out _ _ (fun h => absurd rfl h) ?_
                clear HK K
                refine wpBut_done (by kernel_rfl) ?_ _
                have HV6 := Hid.in (HV5.out.step HG6'.out)
                have HO7 : Hid (OwnA 32 13 w6 w.heap.size ao4 (0 + kk + r1) cap4 ((W2.eraseIdx kk).map mc)) := Hid.in (by rw [HEr.out]; exact HO6.out)
                have HF7 : Hid (∀ k, oblk ao4 = some k → k ∉ S3) := Hid.in (fun k hk => HV5.out.f.far (HN6'.out k hk))
                clear HO5 HO6 HG5' HN5' HG6' HN6' HV5 HT1 HT' HL1 HL2 HEr HS hs1 hs2 hBw hk6 hk7 hkj hmx
                obtain ⟨N3, hN3⟩ : ∃ N3, kk + r1 = N3 := ⟨_, rfl⟩
                rw [Nat.zero_add, hN3] at HLE HO7 HK1
                rw [hN3]
                clear hN3
                have hN3l : N3 ≤ 30 := by have := HK1.out; omega
                obtain ⟨W3, hW3⟩ : ∃ W3, W2.eraseIdx kk = W3 := ⟨_, rfl⟩
                rw [hW3] at HLE HO7 HTk
                obtain ⟨P3, hP3⟩ : ∃ P3, P2.set 4 W3 = P3 := ⟨_, rfl⟩
                rw [hW3, hP3] at HV6
                rw [hP3] at HTk
                have HT3 := Hid.in HTk.out.2
                clear hW3 hP3 HTk HPk HMm HT2 HN2
                go_wp2
                go_loopw [15] (fun x wr => ∃ j : Nat, j ≤ N3 ∧ x = .int .i64 (j : Int) ∧ Lv w wr q S3 2 40 P3 ∧ OwnA 32 13 wr w.heap.size ao4 N3 cap4 (W3.map mc)) (fun x _ => 70 - (intOf x).toNat)
                case atStart => exact ⟨0, Nat.zero_le _, rfl, HV6.out, HO7.out⟩
                case round =>
                  obtain ⟨j, hj, rfl, hv8, hO8⟩ := hrel
                  have HV8 := Hid.in hv8
                  have HO8 := Hid.in hO8
                  clear hv8 hO8 HV6 HO7
                  by_cases hjl : j < N3
                  · as_aux_lemma =>
                      obtain ⟨m, hm⟩ : ∃ m, W3[j]? = some m := ⟨_, List.getElem?_eq_getElem (by rw [HLE.out]; exact hjl)⟩
                      have HPk := Hid.in (HT3.out.peek hm)
                      have HMm := Hid.in hm
                      clear hm
                      have ij : (j : Int) < (N3 : Int) := by omega
                      go_wp2_with fail
                      refine (fbpeek_c wr q 2 40 S3 P3 HV8.out.f 1 1 (j : Int) m true HPk.out).mono ?_
                      rintro r v2 ⟨rfl, hb2⟩
                      have HV9 := Hid.in (HV8.out.step hb2)
                      have HO9 := Hid.in (HO8.out.step hb2)
                      clear hb2 HV8 HO8
                      go_upto_region 27 with (first | (refine wpList_store_mid rfl 32 (.tmp 16) (.tmp 108) rfl v2.heap.size 0 (mv m) rfl rfl (there_zero v2 m) (Tryd.sizeMv _) (mv_one _) ?_; generalize hu2 : (v2.alloc _).setCells v2.heap.size 0 (mv m).toList = u2) | fail)
                      have Ru2 : Hid (u2.rangeAt v2.heap.size 0 (mc m)) := Hid.in (by rw [← hu2]; exact World.rangeAt_setCells_same _ _ _ _ (by rw [Array.length_toList]; exact there_zero v2 m))
                      have Gu2 : Hid (Below v2.heap.size v2 u2) := Hid.in (by
                        have hg : v2.grownBy u2 (some v2.heap.size) := by rw [← hu2]; exact grown_trans' (grown_of_below (below_alloc _ _) _) (grown_setCells _ _ _ _)
                        exact ⟨hg.os, hg.tape, hg.output, hg.size, fun k hk => hg.block k hk (fun e => by cases e; omega)⟩)
                      clear hu2
                      have HV10 := Hid.in (HV9.out.step Gu2.out)
                      have HO10 := Hid.in (HO9.out.step Gu2.out)
                      clear HV9 HO9 Gu2
                      obtain ⟨pb, po, m', rfl, hm', hRm⟩ := HO10.out.msg j (by rw [HLE.out]; exact hjl)
                      rw [HMm.out] at hm'
                      cases hm'
                      have HM := Hid.in hRm
                      clear hRm HPk
                      obtain ⟨a0, a1, a2, a3, a4, a5, a6, a7, a8, a9, a10, a11, a12⟩ := m
                      have hne : ∀ w', (binOp .neq 32 (.agg #[.int .i64 a0, .int .i64 a1, .int .i64 a2, .int .i64 a3, .int .i64 a4, .int .i64 a5, .int .i64 a6, .int .u32 a7, .int .u32 a8, .int .u32 a9, .int .u32 a10, .int .u32 a11, .bool a12]) (.agg #[.int .i64 a0, .int .i64 a1, .int .i64 a2, .int .i64 a3, .int .i64 a4, .int .i64 a5, .int .i64 a6, .int .u32 a7, .int .u32 a8, .int .u32 a9, .int .u32 a10, .int .u32 a11, .bool a12])).run Tryd.prog w' = .ok (.bool false) w' := fun w' => ne_self (a0, a1, a2, a3, a4, a5, a6, a7, a8, a9, a10, a11, a12) w'
                      have n0 : ∀ n : Kin (fun X => Below u2.heap.size u2 X), n.of.cell? ⟨v2.heap.size, 0, none⟩ = some (.int .i64 a0) := fun n => (n.in.cell (p := ⟨v2.heap.size, 0, none⟩) (lt_cell (Ru2.out 0 _ rfl))).trans (by have h := Ru2.out 0 _ rfl; rw [Nat.zero_add] at h; exact h)
                      have n1 : ∀ n : Kin (fun X => Below u2.heap.size u2 X), n.of.cell? ⟨v2.heap.size, 1, none⟩ = some (.int .i64 a1) := fun n => (n.in.cell (p := ⟨v2.heap.size, 1, none⟩) (lt_cell (Ru2.out 1 _ rfl))).trans (by have h := Ru2.out 1 _ rfl; rw [Nat.zero_add] at h; exact h)
                      have n2 : ∀ n : Kin (fun X => Below u2.heap.size u2 X), n.of.cell? ⟨v2.heap.size, 2, none⟩ = some (.int .i64 a2) := fun n => (n.in.cell (p := ⟨v2.heap.size, 2, none⟩) (lt_cell (Ru2.out 2 _ rfl))).trans (by have h := Ru2.out 2 _ rfl; rw [Nat.zero_add] at h; exact h)
                      have n3 : ∀ n : Kin (fun X => Below u2.heap.size u2 X), n.of.cell? ⟨v2.heap.size, 3, none⟩ = some (.int .i64 a3) := fun n => (n.in.cell (p := ⟨v2.heap.size, 3, none⟩) (lt_cell (Ru2.out 3 _ rfl))).trans (by have h := Ru2.out 3 _ rfl; rw [Nat.zero_add] at h; exact h)
                      have n4 : ∀ n : Kin (fun X => Below u2.heap.size u2 X), n.of.cell? ⟨v2.heap.size, 4, none⟩ = some (.int .i64 a4) := fun n => (n.in.cell (p := ⟨v2.heap.size, 4, none⟩) (lt_cell (Ru2.out 4 _ rfl))).trans (by have h := Ru2.out 4 _ rfl; rw [Nat.zero_add] at h; exact h)
                      have n5 : ∀ n : Kin (fun X => Below u2.heap.size u2 X), n.of.cell? ⟨v2.heap.size, 5, none⟩ = some (.int .i64 a5) := fun n => (n.in.cell (p := ⟨v2.heap.size, 5, none⟩) (lt_cell (Ru2.out 5 _ rfl))).trans (by have h := Ru2.out 5 _ rfl; rw [Nat.zero_add] at h; exact h)
                      have n6 : ∀ n : Kin (fun X => Below u2.heap.size u2 X), n.of.cell? ⟨v2.heap.size, 6, none⟩ = some (.int .i64 a6) := fun n => (n.in.cell (p := ⟨v2.heap.size, 6, none⟩) (lt_cell (Ru2.out 6 _ rfl))).trans (by have h := Ru2.out 6 _ rfl; rw [Nat.zero_add] at h; exact h)
                      have n7 : ∀ n : Kin (fun X => Below u2.heap.size u2 X), n.of.cell? ⟨v2.heap.size, 7, none⟩ = some (.int .u32 a7) := fun n => (n.in.cell (p := ⟨v2.heap.size, 7, none⟩) (lt_cell (Ru2.out 7 _ rfl))).trans (by have h := Ru2.out 7 _ rfl; rw [Nat.zero_add] at h; exact h)
                      have n8 : ∀ n : Kin (fun X => Below u2.heap.size u2 X), n.of.cell? ⟨v2.heap.size, 8, none⟩ = some (.int .u32 a8) := fun n => (n.in.cell (p := ⟨v2.heap.size, 8, none⟩) (lt_cell (Ru2.out 8 _ rfl))).trans (by have h := Ru2.out 8 _ rfl; rw [Nat.zero_add] at h; exact h)
                      have n9 : ∀ n : Kin (fun X => Below u2.heap.size u2 X), n.of.cell? ⟨v2.heap.size, 9, none⟩ = some (.int .u32 a9) := fun n => (n.in.cell (p := ⟨v2.heap.size, 9, none⟩) (lt_cell (Ru2.out 9 _ rfl))).trans (by have h := Ru2.out 9 _ rfl; rw [Nat.zero_add] at h; exact h)
                      have n10 : ∀ n : Kin (fun X => Below u2.heap.size u2 X), n.of.cell? ⟨v2.heap.size, 10, none⟩ = some (.int .u32 a10) := fun n => (n.in.cell (p := ⟨v2.heap.size, 10, none⟩) (lt_cell (Ru2.out 10 _ rfl))).trans (by have h := Ru2.out 10 _ rfl; rw [Nat.zero_add] at h; exact h)
                      have n11 : ∀ n : Kin (fun X => Below u2.heap.size u2 X), n.of.cell? ⟨v2.heap.size, 11, none⟩ = some (.int .u32 a11) := fun n => (n.in.cell (p := ⟨v2.heap.size, 11, none⟩) (lt_cell (Ru2.out 11 _ rfl))).trans (by have h := Ru2.out 11 _ rfl; rw [Nat.zero_add] at h; exact h)
                      have n12 : ∀ n : Kin (fun X => Below u2.heap.size u2 X), n.of.cell? ⟨v2.heap.size, 12, none⟩ = some (.bool a12) := fun n => (n.in.cell (p := ⟨v2.heap.size, 12, none⟩) (lt_cell (Ru2.out 12 _ rfl))).trans (by have h := Ru2.out 12 _ rfl; rw [Nat.zero_add] at h; exact h)
                      have m0 : ∀ n : Kin (fun X => Below u2.heap.size u2 X), n.of.cell? ⟨pb, po + j * 13, none⟩ = some (.int .i64 a0) := fun n => (n.in.cell (p := ⟨pb, po + j * 13, none⟩) (lt_cell (HM.out 0 _ rfl))).trans (HM.out 0 _ rfl)
                      have m1 : ∀ n : Kin (fun X => Below u2.heap.size u2 X), n.of.cell? ⟨pb, po + j * 13 + 1, none⟩ = some (.int .i64 a1) := fun n => (n.in.cell (p := ⟨pb, po + j * 13 + 1, none⟩) (lt_cell (HM.out 1 _ rfl))).trans (HM.out 1 _ rfl)
                      have m2 : ∀ n : Kin (fun X => Below u2.heap.size u2 X), n.of.cell? ⟨pb, po + j * 13 + 2, none⟩ = some (.int .i64 a2) := fun n => (n.in.cell (p := ⟨pb, po + j * 13 + 2, none⟩) (lt_cell (HM.out 2 _ rfl))).trans (HM.out 2 _ rfl)
                      have m3 : ∀ n : Kin (fun X => Below u2.heap.size u2 X), n.of.cell? ⟨pb, po + j * 13 + 3, none⟩ = some (.int .i64 a3) := fun n => (n.in.cell (p := ⟨pb, po + j * 13 + 3, none⟩) (lt_cell (HM.out 3 _ rfl))).trans (HM.out 3 _ rfl)
                      have m4 : ∀ n : Kin (fun X => Below u2.heap.size u2 X), n.of.cell? ⟨pb, po + j * 13 + 4, none⟩ = some (.int .i64 a4) := fun n => (n.in.cell (p := ⟨pb, po + j * 13 + 4, none⟩) (lt_cell (HM.out 4 _ rfl))).trans (HM.out 4 _ rfl)
                      have m5 : ∀ n : Kin (fun X => Below u2.heap.size u2 X), n.of.cell? ⟨pb, po + j * 13 + 5, none⟩ = some (.int .i64 a5) := fun n => (n.in.cell (p := ⟨pb, po + j * 13 + 5, none⟩) (lt_cell (HM.out 5 _ rfl))).trans (HM.out 5 _ rfl)
                      have m6 : ∀ n : Kin (fun X => Below u2.heap.size u2 X), n.of.cell? ⟨pb, po + j * 13 + 6, none⟩ = some (.int .i64 a6) := fun n => (n.in.cell (p := ⟨pb, po + j * 13 + 6, none⟩) (lt_cell (HM.out 6 _ rfl))).trans (HM.out 6 _ rfl)
                      have m7 : ∀ n : Kin (fun X => Below u2.heap.size u2 X), n.of.cell? ⟨pb, po + j * 13 + 7, none⟩ = some (.int .u32 a7) := fun n => (n.in.cell (p := ⟨pb, po + j * 13 + 7, none⟩) (lt_cell (HM.out 7 _ rfl))).trans (HM.out 7 _ rfl)
                      have m8 : ∀ n : Kin (fun X => Below u2.heap.size u2 X), n.of.cell? ⟨pb, po + j * 13 + 8, none⟩ = some (.int .u32 a8) := fun n => (n.in.cell (p := ⟨pb, po + j * 13 + 8, none⟩) (lt_cell (HM.out 8 _ rfl))).trans (HM.out 8 _ rfl)
                      have m9 : ∀ n : Kin (fun X => Below u2.heap.size u2 X), n.of.cell? ⟨pb, po + j * 13 + 9, none⟩ = some (.int .u32 a9) := fun n => (n.in.cell (p := ⟨pb, po + j * 13 + 9, none⟩) (lt_cell (HM.out 9 _ rfl))).trans (HM.out 9 _ rfl)
                      have m10 : ∀ n : Kin (fun X => Below u2.heap.size u2 X), n.of.cell? ⟨pb, po + j * 13 + 10, none⟩ = some (.int .u32 a10) := fun n => (n.in.cell (p := ⟨pb, po + j * 13 + 10, none⟩) (lt_cell (HM.out 10 _ rfl))).trans (HM.out 10 _ rfl)
                      have m11 : ∀ n : Kin (fun X => Below u2.heap.size u2 X), n.of.cell? ⟨pb, po + j * 13 + 11, none⟩ = some (.int .u32 a11) := fun n => (n.in.cell (p := ⟨pb, po + j * 13 + 11, none⟩) (lt_cell (HM.out 11 _ rfl))).trans (HM.out 11 _ rfl)
                      have m12 : ∀ n : Kin (fun X => Below u2.heap.size u2 X), n.of.cell? ⟨pb, po + j * 13 + 12, none⟩ = some (.bool a12) := fun n => (n.in.cell (p := ⟨pb, po + j * 13 + 12, none⟩) (lt_cell (HM.out 12 _ rfl))).trans (HM.out 12 _ rfl)
                      refine wp_region_kin (C := fun X => Below u2.heap.size u2 X) (by kernel_rfl) (by kernel_rfl) (Below.refl _ _).drew (fun hne' => ?_)
                      repeat (go_big_quiet_step (fail))
                      refine wpQuiet_nil ?_
                      rintro wq ⟨x, rfl⟩
                      have hxq := x.in
                      generalize x.of = wq at hxq
                      have HXQ := Hid.in hxq
                      clear hxq hne n0 n1 n2 n3 n4 n5 n6 n7 n8 n9 n10 n11 n12 m0 m1 m2 m3 m4 m5 m6 m7 m8 m9 m10 m11 m12
                      have HV11 := Hid.in (HV10.out.step HXQ.out)
                      have HO11 := Hid.in (HO10.out.step HXQ.out)
                      clear HV10 HO10 HXQ HM Ru2
                      go_wp2
                      go_roundw
                      case rel => exact ⟨j + 1, by omega, by go_num, HV11.out, HO11.out⟩
                      case measure => simp [intOf]; omega
                  · as_aux_lemma =>
                      have ij : ¬ (j : Int) < (N3 : Int) := by omega
                      go_wp2
                      go_roundw
                      case rel => exact ⟨_, _, _, ⟨i + 1, S3, W3, P3, ao4, N3, by have := HK1.out; omega, by first | rfl | go_num, cap4, rfl, HLE.out, HT3.out, HV8.out, HO8.out, HF7.out⟩, rfl, rfl, rfl⟩
                      case measure => simp [intOf]; omega
          · as_aux_lemma =>
              obtain rfl : N2 = 0 := by omega
              have hW0 : W2 = [] := List.length_eq_zero_iff.1 HN2.out
              subst hW0
              have h4 : lenF P2 4 = 0 := by unfold lenF; rw [HT2.out.w4]; rfl
              have HPk : Hid (peekF 2 P2 1 1 0 = (zero13, false)) := Hid.in (peekF_out (i := 4) rfl (by rw [h4]; omega))
              have HTk : Hid (tookF 2 P2 1 1 0 = P2) := Hid.in (tookF_out (i := 4) rfl (by rw [h4]; omega))
              clear h4
              go_wp2_with fail
              refine (lvtake_f w wr q 2 40 S2 P2 HV2.out 1 1 0 zero13 false HPk.out _ HTk.out).mono ?_
              rintro r v3 ⟨rfl, S3, hv3, _⟩
              have HV3 := Hid.in hv3
              clear hv3 HV2 HO2 HF2
              go_upto_region 30 with (first | (refine wpList_store_mid rfl 32 (.tmp 18) (.tmp 123) rfl v3.heap.size 0 (mv zero13) rfl rfl (there_zero v3 zero13) (Tryd.sizeMv _) (mv_one _) ?_; generalize hu3 : (v3.alloc _).setCells v3.heap.size 0 (mv zero13).toList = u3) | fail)
              have Ru3 : Hid (u3.rangeAt v3.heap.size 0 (mc zero13)) := Hid.in (by rw [← hu3]; exact World.rangeAt_setCells_same _ _ _ _ (by rw [Array.length_toList]; exact there_zero v3 zero13))
              have Gu3 : Hid (Below v3.heap.size v3 u3) := Hid.in (by
                have hg : v3.grownBy u3 (some v3.heap.size) := by rw [← hu3]; exact grown_trans' (grown_of_below (below_alloc _ _) _) (grown_setCells _ _ _ _)
                exact ⟨hg.os, hg.tape, hg.output, hg.size, fun k hk => hg.block k hk (fun e => by cases e; omega)⟩)
              clear hu3
              have HV4 := Hid.in (HV3.out.step Gu3.out)
              clear HV3 Ru3 Gu3
              have HA := Hid.in (fblen_c u3 q 2 40 S3 P2 HV4.out.f 0 1 N HT2.out.p0)
              have HB := Hid.in (fblen_c u3 q 2 40 S3 P2 HV4.out.f 1 0 0 HT2.out.p2)
              have HC := Hid.in (fball_c u3 q 2 40 S3 P2 HV4.out.f N (by rw [HT2.out.all]; rfl))
              go_wp2_with fail
              refine HA.out.mono ?_
              rintro r x1 ⟨rfl, rfl⟩
              go_wp2_with fail
              refine HB.out.mono ?_
              rintro r x2 ⟨rfl, rfl⟩
              go_wp2_with fail
              refine HC.out.mono ?_
              rintro r x3 ⟨rfl, rfl⟩
              go_wp2_with fail
              refine (fabricRuns_any _ sa (HE.out.below HV4.out.b)).mono ?_
              rintro r x4 ⟨rfl, hb4⟩
              have HB4 := Hid.in (bstep HV4.out.b (Nat.le_refl _) hb4)
              clear hb4 HA HB HC
              go_wp2
              go_ret
              exact ⟨rfl, HB4.out⟩

end Go.Proofs.YtmgmjklnibmacaaDoor

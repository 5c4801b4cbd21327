/- DERIVED of the program: ProgBack returns true. Own work. -/
import Derived.Test.YtbanihjjeicdaaaDoorPgRuns
import Derived.Test.YtbanihjjeicdaaaDoorPgEmpty
namespace Go.Proofs.YtbanihjjeicdaaaDoor
open Go.RowKit Go.Extern.Stop Go.Stop Go.Extern

theorem within_big (n lo hi : Int) (w : World) (h0 : 0 ≤ lo) (h1 : lo ≤ hi) (h2 : hi ≤ 1000000) :
    Calls Tryd.prog 21 #[.int .i64 n, .int .i64 lo, .int .i64 hi] w fun r w' => r = .returned (.int .i64 (wI n lo hi)) ∧ w' = w := by
  obtain ⟨p1, p2, p3, p4⟩ := tmod_emod n (hi - lo + 1) (by omega)
  have hz : ¬ hi - lo + 1 = 0 := by omega
  have HW := Hid.in (And.intro p1 p2)
  clear p1 p2
  by_cases hn : n.tmod (hi - lo + 1) < 0
  · go_enter Tryd.func21, Tryd.ntmps21
    go_wp2
    go_ret
    exact ⟨ret_int (by have h3 := HW.out.2 hn; rw [wI, h3]; omega), rfl⟩
  · go_enter Tryd.func21, Tryd.ntmps21
    go_wp2
    go_ret
    exact ⟨ret_int (by have h3 := HW.out.1 (by omega); rw [wI, h3]), rfl⟩

/-- 's[:j]' of bytes. -/
theorem slice_toB (ao : Option Addr) (N cap j : Nat) (hj : j ≤ cap) (w : World) : (Instr.sliceAt 22 (.slice ao N cap) none (some (.int .i64 (j : Int))) none).run Tryd.prog w = .ok (.slice ao j cap) w := by
  obtain ⟨i0, hi, hz0, hz1, hz2⟩ := info_parts Tryd.infoU8
  have hj2 : (0 : Int) ≤ (j : Int) ∧ (j : Int) ≤ (cap : Int) := by omega
  have hn : ¬ cap < j := by omega
  have hm : ao.map (fun x => x.add 0) = ao := by cases ao <;> simp [Addr.add]
  simp [Instr.sliceAt, Instr.slice, Instr.sliceBounds, Instr.sliceBound, asIntOf, Sem.run_bind, run_underlying Tryd.underlying22, hj2, hn, sizeOf, typeInfo, hi, hm]

set_option maxHeartbeats 3200000 in
set_option maxRecDepth 20000 in
theorem progBack_any (w : World) (sa : Nat → Addr) (hE : Env10 w sa) (al : Option Addr) (N cal : Nat) (L : List O4) (hN : N = L.length) (hI : RowO w al cal L) (hx : ∀ x ∈ L, O32 x) (n cut : Int) (ab : Option Addr) (cb : Nat) (bs : List Nat) (hB : Lie w ab cb bs) (hby : ∀ x ∈ bs, x < 256) (hln : bs.length ≤ 140737488355328) :
    Calls Tryd.prog 5 #[.slice al N cal, .int .i64 n, .int .i64 cut, .slice ab bs.length cb] w fun r w' => r = .returned (.bool true) ∧ Below w.heap.size w w' := by
  have HE := Hid.in hE
  have HN := Hid.in hN
  have HI := Hid.in hI
  have HX := Hid.in hx
  have HLB := Hid.in hB
  have HBY := Hid.in hby
  clear hE hN hI hx hB hby
  obtain ⟨m, hm⟩ : ∃ m, wI n 1 128 = m := ⟨_, rfl⟩
  have hm12 := wI_le n 1 128 (by decide)
  rw [hm] at hm12
  obtain ⟨hm1, hm2⟩ := hm12
  have HM := Hid.in hm
  clear hm
  go_enter Tryd.func5, Tryd.ntmps5
  go_wp2_with fail
  refine (within_i n 1 128 _ (by decide) (by decide) (by decide)).mono ?_
  rw [HM.out]
  rintro r w ⟨rfl, rfl⟩
  go_wp2
  go_loopw [10, 11] (fun l i wr => ∃ (j : Nat) (ao : Option Addr) (cap M : Nat) (own : List O4), j ≤ N ∧ j ≤ 40 ∧ M ≤ j ∧ i = .int .i64 (j : Int) ∧ l = .slice ao M cap ∧ OwnO wr w.heap.size ao M cap own ∧ (∀ x ∈ own, rt x m = true ∧ O32 x) ∧ Below w.heap.size w wr) (fun _ i _ => 40 - (intOf i).toNat)
  case atStart => exact ⟨0, none, 0, 0, [], Nat.zero_le _, Nat.zero_le _, Nat.le_refl _, rfl, rfl, OwnA.nil _ _ _ _, by simp, Below.refl _ _⟩
  case round =>
    obtain ⟨j, ao, cap, M, own, hjN, hj40, hMj, rfl, rfl, hO, hR, hb⟩ := hrel
    have HO := Hid.in hO
    have HR := Hid.in hR
    have HB := Hid.in hb
    clear hO hR hb
    by_cases hlt : j < N ∧ j < 40
    · obtain ⟨hlt1, hlt2⟩ := hlt
      obtain ⟨b, o, k, a, v, d, hal, x0, x1, x2, x3, hj2⟩ := (HI.out.step HB.out).oat j (by have := HN.out; omega)
      have HAL := Hid.in hal
      subst hal
      have HJ := Hid.in hj2
      have HC := Hid.in (And.intro x0 (And.intro x1 (And.intro x2 x3)))
      clear hj2
      have i1 : (j : Int) < (N : Int) := by omega
      have i2 : (j : Int) < 40 := by omega
      go_wp2_with fail
      refine (right_any k a v d m wr).mono ?_
      by_cases hrt : rt (k, a, v, d) m = true
      · rw [hrt]
        have HRT := Hid.in hrt
        clear hrt
        rintro r w2 ⟨rfl, hb2⟩
        have HB2 := Hid.in (bstep HB.out (Nat.le_refl _) hb2)
        have HO2 := Hid.in (HO.out.step hb2)
        clear x0 x1 x2 x3
        have x0 : w2.cell? ⟨b, o + j * 4, none⟩ = some (.int .i64 k) := (hb2.cell (p := ⟨b, o + j * 4, none⟩) (lt_cell HC.out.1)).trans HC.out.1
        have x1 : w2.cell? ⟨b, o + j * 4 + 1, none⟩ = some (.int .i64 a) := (hb2.cell (p := ⟨b, o + j * 4 + 1, none⟩) (lt_cell HC.out.2.1)).trans HC.out.2.1
        have x2 : w2.cell? ⟨b, o + j * 4 + 2, none⟩ = some (.int .u32 v) := (hb2.cell (p := ⟨b, o + j * 4 + 2, none⟩) (lt_cell HC.out.2.2.1)).trans HC.out.2.2.1
        have x3 : w2.cell? ⟨b, o + j * 4 + 3, none⟩ = some (.int .u32 d) := (hb2.cell (p := ⟨b, o + j * 4 + 3, none⟩) (lt_cell HC.out.2.2.2)).trans HC.out.2.2.2
        clear hb2
        have HO3 : Hid (OwnO (w2.alloc (.cells #[.int .i64 k, .int .i64 a, .int .u32 v, .int .u32 d] 29)) w.heap.size ao M cap own) := Hid.in (HO2.out.step (below_alloc _ _))
        have HS3 : Hid (Rows' 4 (w2.alloc (.cells #[.int .i64 k, .int .i64 a, .int .u32 v, .int .u32 d] 29)) (some ⟨w2.heap.size, 0, none⟩) 1 [oc (k, a, v, d)]) := Hid.in (Rows'.lit 4 w2 29 (oc (k, a, v, d)) _ rfl rfl (oc_one _))
        have HBB : Hid (w.heap.size ≤ (w2.alloc (.cells #[.int .i64 k, .int .i64 a, .int .u32 v, .int .u32 d] 29)).heap.size) := Hid.in (by have := HB2.out.size; simp; omega)
        have hj1 : M + 1 ≤ 1000000 := by omega
        go_wp2_with (at_builtin; refine wpList_concatA rfl 30 29 4 24 _ (.tmp 41) (.tmp 46) rfl Tryd.underlying30 Tryd.infoOp rfl (by decide) (by decide) w.heap.size ao (some ⟨w2.heap.size, 0, none⟩) M cap 1 1 (own.map oc) [oc (k, a, v, d)] rfl HO3.out rfl rfl HS3.out HBB.out hj1 ?_; intro ao5 cap5 w5 HO5 HG5 _ _)
        go_roundw
        case rel =>
          refine ⟨j + 1, ao5, cap5, M + 1, own ++ [(k, a, v, d)], by omega, by omega, by omega, by go_num, rfl, ?_, ?_, ?_⟩
          · have h := HO5.out
            rw [show own.map oc ++ [oc (k, a, v, d)] = (own ++ [(k, a, v, d)]).map oc by simp] at h
            exact h
          · intro x hx
            rcases List.mem_append.1 hx with hx | hx
            · exact HR.out x hx
            · rw [List.mem_singleton.1 hx]; exact ⟨HRT.out, HX.out _ (List.mem_of_getElem? HJ.out)⟩
          · exact below_row (bstep HB2.out (Nat.le_refl _) (below_alloc _ _)) HG5.out HBB.out (fun b hb => (HO2.out.blk b hb).1)
        case measure => simp [intOf]; omega
      · have hrf : rt (k, a, v, d) m = false := by simpa using hrt
        rw [hrf]
        clear hrt hrf
        rintro r w2 ⟨rfl, hb2⟩
        have HB2 := Hid.in (bstep HB.out (Nat.le_refl _) hb2)
        have HO2 := Hid.in (HO.out.step hb2)
        clear x0 x1 x2 x3 hb2
        go_wp2
        go_roundw
        case rel => exact ⟨j + 1, ao, cap, M, own, by omega, by omega, by omega, by go_num, rfl, HO2.out, HR.out, HB2.out⟩
        case measure => simp [intOf]; omega
    · go_upto_region 8 with fail
      all_goals
        clear hlt hjN
        have HOL : Hid (M = own.length) := Hid.in HO.out.olen
        have HP := Hid.in (encP_len own HR.out (by have := HOL.out; omega))
        go_wp2_with fail
        refine (put_ok ao M cap own m wr sa (HE.out.below HB.out) HOL.out (by omega) HO.out.rowO HR.out).mono ?_
        rintro r w4 ⟨a4, M4, c4, rfl, hM4, hL4, hb4⟩
        have HM4 := Hid.in hM4
        have HL4 := Hid.in hL4
        have HB4 := Hid.in (bstep HB.out (Nat.le_refl _) hb4)
        have HO4 := Hid.in (HO.out.step hb4)
        clear hM4 hL4 hb4 HO HB
        go_wp2_with fail
        refine (parse_ok a4 M4 c4 own m w4 sa (HE.out.below HB4.out) HM4.out HL4.out hm1 hm2 HR.out (by have := HOL.out; omega)).mono ?_
        rintro r w5 ⟨a5, M5, c5, rfl, hM5, hO5, hb5⟩
        obtain rfl : M5 = M := hM5.trans HOL.out.symm
        have HO5 := Hid.in hO5
        have HL5 := Hid.in (HL4.out.step hb5)
        have HOW5 := Hid.in (HO4.out.step hb5)
        have HB5 := Hid.in (bstep HB4.out (Nat.le_refl _) hb5)
        clear hM5 hO5 hb5 HL4 HO4 HB4
        have hM43 : M4 ≤ 3000 := by have := HM4.out; have := HP.out; omega
        go_wp2_with fail
        refine (within_big cut 0 (M4 : Int) w5 (by decide) (by omega) (by omega)).mono ?_
        obtain ⟨kk, hkk, hkM⟩ : ∃ kk : Nat, wI cut 0 (M4 : Int) = (kk : Int) ∧ kk ≤ M4 := ⟨(wI cut 0 (M4 : Int)).toNat, by have := wI_le cut 0 (M4 : Int) (by omega); omega, by have := wI_le cut 0 (M4 : Int) (by omega); omega⟩
        rw [hkk]
        clear hkk
        rintro r w5 ⟨rfl, rfl⟩
        have hsl := slice_toB a4 M4 c4 kk (by have := HL5.out.1; have := HM4.out; omega)
        go_wp2_with fail
        have HTK : Hid (kk = ((encP own).take kk).length) := Hid.in (by rw [List.length_take]; have := HM4.out; omega)
        rcases hg : getP ((encP own).take kk) (m - 1) 0 0 with ⟨cg, Xg, pg⟩
        have HG := Hid.in hg
        clear hg
        refine (parse_any a4 kk c4 ((encP own).take kk) m w5 sa (HE.out.below HB5.out) HTK.out (HL5.out.take kk) (fun x hx => encP_byte own x (List.mem_of_mem_take hx)) (by rw [List.length_take]; have := HP.out; omega) hm1 hm2 cg pg Xg HG.out).mono ?_
        rintro r w6 ⟨v6, e6, rfl, hb6, hno, hyes⟩
        have HNO := Hid.in hno
        have HYES := Hid.in hyes
        have HO6 := Hid.in (HO5.out.step hb6)
        have HOW6 := Hid.in (HOW5.out.step hb6)
        have HB6 := Hid.in (bstep HB5.out (Nat.le_refl _) hb6)
        clear hno hyes hb6 HO5 HOW5 HB5 HL5 hsl
        go_upto_region 12 with fail
        go_cut [92] (fun b wx => b = .bool false ∧ Below w.heap.size w wx)
        case first =>
          by_cases hk : kk = M4
          · have he : e6 = .nilIface := by
              refine (HYES.out ?_).1
              have h1 := getP_enc [] HR.out (by have := HOL.out; omega)
              have h2 := HG.out
              rw [List.append_nil] at h1
              rw [List.take_of_length_le (by have := HM4.out; omega), h1] at h2
              simp only [Prod.mk.injEq] at h2
              obtain ⟨rfl, _, rfl⟩ := h2
              rw [List.take_of_length_le (by have := HM4.out; omega)]
              unfold endS
              simp
            subst he
            have hkq : ((kk : Int) == (M4 : Int)) = true := by simp [hk]
            clear hk HNO HYES HG HTK
            go_wp2_with fail
            refine (sameO_any a5 ao M5 c5 cap own w6 HOL.out HO6.out.rowO HOW6.out.rowO (by omega)).mono ?_
            rintro r w7 ⟨rfl, hb7⟩
            have HB7 := Hid.in (bstep HB6.out (Nat.le_refl _) hb7)
            clear hb7 HO6 HOW6
            go_wp2_with fail
            go_meet
            case rel => exact ⟨rfl, HB7.out⟩
          · have he := (HNO.out (by
              have h1 := getP_cut (k := kk) HR.out (by have := HOL.out; omega) hm2 (by have := HM4.out; omega)
              rw [HG.out] at h1
              exact h1)).2
            subst he
            have hkq : ((kk : Int) == (M4 : Int)) = false := by simp; omega
            clear hk HNO HYES HG HTK
            go_wp2_with fail
            refine (sameO_any a5 ao M5 c5 cap own w6 HOL.out HO6.out.rowO HOW6.out.rowO (by omega)).mono ?_
            rintro r w7 ⟨rfl, hb7⟩
            have HB7 := Hid.in (bstep HB6.out (Nat.le_refl _) hb7)
            clear hb7 HO6 HOW6
            go_wp2_with fail
            go_meet
            case rel => exact ⟨rfl, HB7.out⟩
        case rest =>
        obtain ⟨rfl, hb7⟩ := hcut
        have HB7 := Hid.in hb7
        clear hb7 HO6 HOW6 HB6 HNO HYES HG HTK HM4 HP
        rcases hg : getP bs (m - 1) 0 0 with ⟨cg, X, pg⟩
        have HG := Hid.in hg
        clear hg
        go_wp2_with fail
        refine (parse_any ab bs.length cb bs m wc sa (HE.out.below HB7.out) rfl (HLB.out.step HB7.out) HBY.out hln hm1 hm2 cg pg X HG.out).mono ?_
        rintro r w8 ⟨v8, e8, rfl, hb8, hno, hyes⟩
        have HB8 := Hid.in (bstep HB7.out (Nat.le_refl _) hb8)
        clear hb8
        by_cases he : endS bs pg cg = 0
        · obtain ⟨rfl, a8, c8, rfl, hO8⟩ := hyes he
          have HO8 := Hid.in hO8
          have HQ : Hid ((∀ x ∈ X, rt x m = true ∧ O32 x) ∧ X.length ≤ 64 ∧ bs = encP X) := Hid.in (by
            unfold endS at he
            by_cases hc : cg = 0
            · subst hc
              rw [if_neg (by simp)] at he
              have hnl : ¬ pg < bs.length := by intro hl; rw [if_pos hl] at he; omega
              obtain ⟨q1, q2, q3, q4⟩ := getP_take HG.out HBY.out hm2
              rw [List.take_of_length_le (by omega)] at q4
              exact ⟨q1, q2, q4⟩
            · rw [if_pos hc] at he
              exact absurd he hc)
          clear hO8 hno hyes he HG
          go_wp2_with fail
          refine (put_ok a8 X.length c8 X m w8 sa (HE.out.below HB8.out) rfl HQ.out.2.1 HO8.out.rowO HQ.out.1).mono ?_
          rintro r w9 ⟨a9, M9, c9, rfl, hM9, hL9, hb9⟩
          have HM9 := Hid.in hM9
          have HL9 := Hid.in hL9
          have HB9 := Hid.in (bstep HB8.out (Nat.le_refl _) hb9)
          clear hM9 hL9 hb9
          go_wp2_with fail
          refine (same_any a9 ab M9 bs.length c9 cb (encP X) bs w9 HM9.out rfl HL9.out (HLB.out.step HB9.out) (by have := encP_len X HQ.out.1 HQ.out.2.1; omega)).mono ?_
          rw [show decide (encP X = bs) = true from decide_eq_true HQ.out.2.2.symm]
          rintro r w10 ⟨rfl, hb10⟩
          have HB10 := Hid.in (bstep HB9.out (Nat.le_refl _) hb10)
          clear hb10
          go_wp2_with fail
          refine (progRuns_any w10 sa (HE.out.below HB10.out)).mono ?_
          rintro r w11 ⟨rfl, hb11⟩
          have HB11 := Hid.in (bstep HB10.out (Nat.le_refl _) hb11)
          clear hb11
          go_wp2
          go_ret
          exact ⟨rfl, HB11.out⟩
        · obtain ⟨rfl, rfl⟩ := hno he
          clear hno hyes he HG
          go_wp2_with fail
          refine (progRuns_any w8 sa (HE.out.below HB8.out)).mono ?_
          rintro r w11 ⟨rfl, hb11⟩
          have HB11 := Hid.in (bstep HB8.out (Nat.le_refl _) hb11)
          clear hb11
          go_wp2
          go_ret
          exact ⟨rfl, HB11.out⟩

end Go.Proofs.YtbanihjjeicdaaaDoor

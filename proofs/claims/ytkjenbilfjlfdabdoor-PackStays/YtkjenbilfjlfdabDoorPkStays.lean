/- DERIVED of the program: PackStays returns true. Own work. -/
import Derived.Test.YtkjenbilfjlfdabDoorPkJ
import Derived.Test.YtkjenbilfjlfdabDoorPkAsk
import Derived.Test.YtkjenbilfjlfdabDoorPkEq
namespace Go.Proofs.YtkjenbilfjlfdabDoor
open Go.RowKit Go.Extern.Stop Go.Stop Go.Extern

theorem enc_tail : ∀ (v : Nat) (l : List Nat), enc v ≠ l ++ [128] := by
  intro v
  induction v using Nat.strongRecOn with
  | _ v ih =>
    intro l h
    rcases Nat.lt_or_ge v 128 with h1 | h1
    · rw [enc_lt h1] at h
      cases l with
      | nil => simp at h; omega
      | cons x r => simp at h
    · rw [enc_ge h1] at h
      cases l with
      | nil =>
        have h2 := congrArg List.length h
        have := enc_pos (v / 128)
        simp at h2
        rw [h2] at this
        simp at this
      | cons x r =>
        simp only [List.cons_append, List.cons.injEq] at h
        exact ih (v / 128) (by omega) r h.2

/-- A reader never takes a last byte of 128. -/
theorem stays_step (bs : List Nat) (at_ u s : Nat) (hby : ∀ x ∈ bs, x < 256) (ha : at_ ≤ bs.length) (hd : dec 0 0 ((bs ++ [128]).drop at_) = (0, u, s)) : u < 18446744073709551616 ∧ 1 ≤ s ∧ at_ + s ≤ bs.length := by
  obtain ⟨v, e1, e2, e3, e4, e5, e6⟩ := dec_ok _ 0 0 u s (by omega) (fun x hx => by
    rcases List.mem_append.1 (List.mem_of_mem_drop hx) with h | h
    · exact hby x h
    · simp at h; omega) hd
  simp only [Nat.mul_zero, Nat.pow_zero, Nat.mul_one, Nat.zero_add, Nat.sub_zero] at e1 e2 e5
  subst e1
  have hp := enc_pos u
  refine ⟨by simpa using e5, by omega, ?_⟩
  rw [List.length_drop, List.length_append, List.length_singleton] at e4
  rcases Nat.lt_or_ge bs.length (at_ + s) with h | h
  · rw [List.take_of_length_le (by rw [List.length_drop, List.length_append, List.length_singleton]; omega), List.drop_append_of_le_length ha] at e3
    exact absurd e3.symm (enc_tail u _)
  · exact h

theorem rnum_wrong (w : World) (sa : Nat → Addr) (ra rz q at_ c : Nat) (bs : List Nat) (hR : Rd w sa ra rz q bs at_ c) (hc : c ≠ 0) :
    Calls Tryd.prog 7 #[.pointer (some ⟨q, 0, none⟩)] w fun r w' => r = .returned (.int .i64 0) ∧ w' = w := by
  have HR := Hid.in hR
  have HC := Hid.in hc
  clear hR hc
  go_enter Tryd.func7, Tryd.ntmps7
  go_wp2_with fail
  refine (in_wrong w sa ra rz q at_ c bs HR.out HC.out _ _).mono ?_
  rintro r w1 ⟨rfl, rfl⟩
  go_wp2
  go_ret
  exact ⟨rfl, rfl⟩

theorem rend_wrong (w : World) (sa : Nat → Addr) (ra rz q at_ c : Nat) (bs : List Nat) (hR : Rd w sa ra rz q bs at_ c) (hc : c ≠ 0) :
    Calls Tryd.prog 10 #[.pointer (some ⟨q, 0, none⟩)] w fun r w' => r = .returned (flt opP at_ (snt (sa c))) ∧ Below w.heap.size w w' := by
  obtain ⟨ao, cap, hq, hL, hne⟩ := hR.blk
  have k0 : w.cell? ⟨q, 0, none⟩ = some (.slice ao bs.length cap) := blk_cell hq rfl
  have k1 : w.cell? ⟨q, 1, none⟩ = some (.int .i64 at_) := blk_cell hq rfl
  have k2 : w.cell? ⟨q, 2, none⟩ = some (flt opP at_ (snt (sa c))) := by
    rw [← rerr_yes sa c at_ hc]; exact blk_cell hq rfl
  clear hR hq hL hne hc
  go_enter Tryd.func10, Tryd.ntmps10
  go_upto_region 1 with fail
  go_quiet (fail)
  go_wp2
  go_ret
  exact ⟨rfl, drewN_below (Below.refl _ _) _⟩

set_option maxHeartbeats 3200000 in
set_option maxRecDepth 20000 in
theorem packStays_any (w : World) (sa : Nat → Addr) (hE : Env10 w sa) (ao : Option Addr) (cap : Nat) (bs : List Nat) (hL : Lie w ao cap bs) (hby : ∀ x ∈ bs, x < 256) (hlen : bs.length ≤ 140737488351232)
    (al : Option Addr) (n capl : Nat) (hA : Asks w al n 3) :
    Calls Tryd.prog 3 #[.slice ao bs.length cap, .slice al n capl] w fun r w' => r = .returned (.bool true) ∧ Below w.heap.size w w' := by
  have HE := Hid.in hE
  have HL := Hid.in hL
  have HA := Hid.in hA
  have HBY := Hid.in hby
  have HBY2 : Hid (∀ x ∈ bs ++ [128], x < 256) := Hid.in (fun x hx => by
    rcases List.mem_append.1 hx with h | h
    · exact hby x h
    · simp at h; omega)
  clear hE hL hA hby
  have HO1 : Hid (Own (w.alloc (.cells #[] 5)) w.heap.size (some ⟨w.heap.size, 0, none⟩) 0 0 []) := Hid.in (Own.lit0 w _ (Nat.le_refl _))
  have HL1 : Hid (Lie (w.alloc (.cells #[] 5)) ao cap bs) := Hid.in (HL.out.step (below_alloc _ _))
  go_enter Tryd.func3, Tryd.ntmps3
  go_wp2_with (first
    | (at_builtin; refine wpList_concat rfl (.tmp 10) (.tmp 11) rfl w.heap.size w (some ⟨w.heap.size, 0, none⟩) ao 0 0 bs.length cap [] bs rfl HO1.out rfl rfl HL1.out (below_alloc _ _) (by simp) (by omega) ?_; intro a1 c1 w1 HO2 HB2; simp only [Nat.zero_add, List.nil_append] at HO2 ⊢)
    | (at_builtin; refine wpList_concat rfl (.tmp 12) (.tmp 13) rfl w.heap.size w a1 _ bs.length c1 1 _ bs [128] rfl (HO2.out.step (below_alloc _ _)) rfl rfl (Lie.lit1 _ _ _ 128 rfl) (HB2.out.alloc HB2.out.size _) (by have := HB2.out.size; simp; omega) (by omega) ?_; intro a3 c3 w3 HO3 HB3)
    | fail)
  have HLN : Hid ((bs ++ [128]).length = bs.length + 1) := Hid.in (by simp)
  rw [← HLN.out]
  refine (read_any a3 c3 (bs ++ [128]) w3 sa HO3.out.lie HBY2.out (by rw [HLN.out]; omega)).mono ?_
  rintro r w4 ⟨q, rfl, hR, hb4⟩
  have HR4 := Hid.in hR
  have HQ : Hid (w.heap.size ≤ q) := Hid.in (by have := hR.rng.1; have := HB3.out.size; omega)
  have HB4 := Hid.in (bstep HB3.out (Nat.le_refl _) hb4)
  clear hR hb4 HO1 HL1 HO2 HB2 HO3
  go_wp2
  go_loopw [6] (fun i wr => ∃ (k at_ c : Nat), k ≤ bs.length + 1 ∧ i = .int .i64 k ∧ Rd wr sa w3.heap.size w4.heap.size q (bs ++ [128]) at_ c ∧ (c = 0 → k ≤ at_ ∧ at_ ≤ bs.length) ∧ Below w.heap.size w wr) (fun i _ => bs.length + 1 - (intOf i).toNat)
  case atStart => exact ⟨0, 0, 0, Nat.zero_le _, rfl, HR4.out, fun _ => ⟨Nat.le_refl _, Nat.zero_le _⟩, HB4.out⟩
  case round =>
    obtain ⟨k, at_, c, hk, rfl, hR, hc0, hb⟩ := hrel
    have HR := Hid.in hR
    have HC0 := Hid.in hc0
    have HB := Hid.in hb
    clear hR hc0 hb HR4 HB4
    by_cases hlt : k ≤ bs.length
    · go_wp2_with fail
      refine (rwrong_any wr sa _ _ q at_ c _ HR.out).mono ?_
      by_cases hc : c = 0
      · subst hc
        rw [rerr_no]
        rintro r w' ⟨rfl, rfl⟩
        go_wp2_with fail
        refine (rnum_any w' sa (HE.out.below HB.out) _ _ q at_ 0 _ HR.out).mono ?_
        obtain ⟨h1, h2⟩ := HC0.out (by simp)
        obtain ⟨d, u, s, hd⟩ : ∃ d u s, dec 0 0 ((bs ++ [128]).drop at_) = (d, u, s) := ⟨_, _, _, rfl⟩
        by_cases hd0 : d = 0
        · subst hd0
          obtain ⟨s1, s2, s3⟩ := stays_step bs at_ u s HBY.out h2 hd
          rw [numS_ok hd s1]
          rintro r w5 ⟨rfl, hR5, hg5⟩
          have HR5 := Hid.in hR5
          have HB5 := Hid.in (wrote HB.out hg5 (Nat.le_refl _) HQ.out)
          clear hR5 hg5 hd
          go_wp2
          go_roundw
          case rel => exact ⟨k + 1, _, 0, by omega, by go_num, HR5.out, fun _ => ⟨by omega, s3⟩, HB5.out⟩
          case measure => simp [intOf]; omega
        · rw [numS_bad hd hd0]
          rintro r w5 ⟨rfl, hR5, hg5⟩
          have HR5 := Hid.in hR5
          have HB5 := Hid.in (wrote HB.out hg5 (Nat.le_refl _) HQ.out)
          have HD0 := Hid.in hd0
          clear hR5 hg5 hd hd0
          go_wp2
          go_roundw
          case rel => exact ⟨k + 1, _, d, by omega, by go_num, HR5.out, fun h => absurd h HD0.out, HB5.out⟩
          case measure => simp [intOf]; omega
      · rw [rerr_yes _ _ _ hc]
        have HC := Hid.in hc
        clear hc
        rintro r w' ⟨rfl, rfl⟩
        rename World => wt
        go_wp2_with fail
        refine (rwrong_any wt sa _ _ q at_ c _ HR.out).mono ?_
        rw [rerr_yes _ _ _ HC.out]
        rintro r wt ⟨rfl, rfl⟩
        go_wp2_with fail
        refine (rat_any wt sa _ _ q at_ c _ HR.out).mono ?_
        rintro r wt ⟨rfl, rfl⟩
        go_wp2
        go_loopw [9] (fun i wv => ∃ k : Nat, k ≤ n ∧ k ≤ 20 ∧ i = .int .i64 k ∧ Below wt.heap.size wt wv) (fun i _ => 20 - (intOf i).toNat)
        case atStart => exact ⟨0, Nat.zero_le _, Nat.zero_le _, rfl, Below.refl _ _⟩
        case round =>
          obtain ⟨k2, hk2, hk20, rfl, hbv⟩ := hrel
          have HBV := Hid.in hbv
          clear hbv
          by_cases hlt : k2 < n ∧ k2 < 20
          · obtain ⟨hlt, hlt20⟩ := hlt
            obtain ⟨b, o, rfl, hz⟩ := HA.out k2 hlt
            obtain ⟨z1, hz1⟩ := hz 1 (by omega)
            obtain ⟨z2, hz2⟩ := hz 2 (by omega)
            have HWV : Hid (Below w.heap.size w wr) := Hid.in (bstep HB.out (Nat.le_refl _) HBV.out)
            have hc1 : wr.cell? ⟨b, o + k2 * 3 + 1, none⟩ = some (.int .i64 z1) := (HWV.out.cell (p := ⟨b, o + k2 * 3 + 1, none⟩) (lt_cell (q := ⟨b, o + k2 * 3 + 1, none⟩) hz1)).trans hz1
            have hc2 : wr.cell? ⟨b, o + k2 * 3 + 2, none⟩ = some (.int .i64 z2) := (HWV.out.cell (p := ⟨b, o + k2 * 3 + 2, none⟩) (lt_cell (q := ⟨b, o + k2 * 3 + 2, none⟩) hz2)).trans hz2
            clear hz hz1 hz2
            have HRv := Hid.in (HR.out.step HBV.out)
            have i0 : (0 : Int) ≤ (k2 : Int) := by omega
            have i1 : (k2 : Int) < (n : Int) := by omega
            have hne := neFF opP at_ (sa c)
            have hbr : Below wr.heap.size wr wr := Below.refl _ _
            have hbd : ∀ W, Below wr.heap.size wr W → Below wr.heap.size wr W.drew := fun W h => h.drew
            go_upto_region 14 with fail
            go_region_held3 (fun W => W.cell? ⟨b, o + k2 * 3 + 1, none⟩ = some (.int .i64 z1) ∧ W.cell? ⟨b, o + k2 * 3 + 2, none⟩ = some (.int .i64 z2) ∧ Below wr.heap.size wr W) (first | go_keep | (simp [*]; done))
              (first
                | (go_at_call 7; refine (rnum_wrong _ sa _ _ q at_ c _ (HRv.out.step (by simp [*])) HC.out).mono ?_; rintro r w' ⟨rfl, rfl⟩)
                | (go_at_call 9; refine (in_wrong _ sa _ _ q at_ c _ (HRv.out.step (by simp [*])) HC.out _ _).mono ?_; rintro r w' ⟨rfl, rfl⟩)
                | (go_at_call 8; refine (rat_any _ sa _ _ q at_ c _ (HRv.out.step (by simp [*]))).mono ?_; rintro r w' ⟨rfl, rfl⟩)
                | (go_at_call 6; refine (rwrong_any _ sa _ _ q at_ c _ (HRv.out.step (by simp [*]))).mono ?_; rw [rerr_yes sa c at_ HC.out]; rintro r w' ⟨rfl, rfl⟩)
                | (go_at_call 10; refine (rend_wrong _ sa _ _ q at_ c _ (HRv.out.step (by simp [*])) HC.out).mono ?_; rintro r w9 ⟨rfl, hb9⟩; have hS : Below wr.heap.size wr w9 := bstep (by simp [*]) (Nat.le_refl _) hb9; have hd1 : w9.cell? ⟨b, o + k2 * 3 + 1, none⟩ = some (.int .i64 z1) := (hS.cell (p := ⟨b, o + k2 * 3 + 1, none⟩) (lt_cell (q := ⟨b, o + k2 * 3 + 1, none⟩) hc1)).trans hc1; have hd2 : w9.cell? ⟨b, o + k2 * 3 + 2, none⟩ = some (.int .i64 z2) := (hS.cell (p := ⟨b, o + k2 * 3 + 2, none⟩) (lt_cell (q := ⟨b, o + k2 * 3 + 2, none⟩) hc2)).trans hc2; clear hb9))
            have HX := Hid.in (bstep HBV.out (Nat.le_refl _) hS)
            clear hne hbr hbd hS hd1 hd2 hc1 hc2 i0 i1
            go_wp2
            go_roundw
            case rel => exact ⟨k2 + 1, by omega, by omega, by go_num, HX.out⟩
            case measure => simp [intOf]; omega
          · have HW := Hid.in (bstep HB.out (Nat.le_refl _) HBV.out)
            by_cases h1 : k2 < n
            · have h2 : 20 ≤ k2 := by omega
              clear hlt
              go_wp2_with fail
              refine (packRuns_any wr sa (HE.out.below HW.out)).mono ?_
              rintro r w7 ⟨rfl, hb7⟩
              have HW7 := Hid.in (bstep HW.out (Nat.le_refl _) hb7)
              clear hb7
              go_wp2
              go_ret
              exact ⟨rfl, HW7.out⟩
            · clear hlt
              go_wp2_with fail
              refine (packRuns_any wr sa (HE.out.below HW.out)).mono ?_
              rintro r w7 ⟨rfl, hb7⟩
              have HW7 := Hid.in (bstep HW.out (Nat.le_refl _) hb7)
              clear hb7
              go_wp2
              go_ret
              exact ⟨rfl, HW7.out⟩
    · have HC : Hid (c ≠ 0) := Hid.in (fun e => by have := HC0.out e; omega)
      rename World => wt
      go_wp2_with fail
      refine (rwrong_any wt sa _ _ q at_ c _ HR.out).mono ?_
      rw [rerr_yes _ _ _ HC.out]
      rintro r wt ⟨rfl, rfl⟩
      go_wp2_with fail
      refine (rat_any wt sa _ _ q at_ c _ HR.out).mono ?_
      rintro r wt ⟨rfl, rfl⟩
      go_wp2
      go_loopw [9] (fun i wv => ∃ k : Nat, k ≤ n ∧ k ≤ 20 ∧ i = .int .i64 k ∧ Below wt.heap.size wt wv) (fun i _ => 20 - (intOf i).toNat)
      case atStart => exact ⟨0, Nat.zero_le _, Nat.zero_le _, rfl, Below.refl _ _⟩
      case round =>
        obtain ⟨k2, hk2, hk20, rfl, hbv⟩ := hrel
        have HBV := Hid.in hbv
        clear hbv
        by_cases hlt : k2 < n ∧ k2 < 20
        · obtain ⟨hlt, hlt20⟩ := hlt
          obtain ⟨b, o, rfl, hz⟩ := HA.out k2 hlt
          obtain ⟨z1, hz1⟩ := hz 1 (by omega)
          obtain ⟨z2, hz2⟩ := hz 2 (by omega)
          have HWV : Hid (Below w.heap.size w wr) := Hid.in (bstep HB.out (Nat.le_refl _) HBV.out)
          have hc1 : wr.cell? ⟨b, o + k2 * 3 + 1, none⟩ = some (.int .i64 z1) := (HWV.out.cell (p := ⟨b, o + k2 * 3 + 1, none⟩) (lt_cell (q := ⟨b, o + k2 * 3 + 1, none⟩) hz1)).trans hz1
          have hc2 : wr.cell? ⟨b, o + k2 * 3 + 2, none⟩ = some (.int .i64 z2) := (HWV.out.cell (p := ⟨b, o + k2 * 3 + 2, none⟩) (lt_cell (q := ⟨b, o + k2 * 3 + 2, none⟩) hz2)).trans hz2
          clear hz hz1 hz2
          have HRv := Hid.in (HR.out.step HBV.out)
          have i0 : (0 : Int) ≤ (k2 : Int) := by omega
          have i1 : (k2 : Int) < (n : Int) := by omega
          have hne := neFF opP at_ (sa c)
          have hbr : Below wr.heap.size wr wr := Below.refl _ _
          have hbd : ∀ W, Below wr.heap.size wr W → Below wr.heap.size wr W.drew := fun W h => h.drew
          go_upto_region 14 with fail
          go_region_held3 (fun W => W.cell? ⟨b, o + k2 * 3 + 1, none⟩ = some (.int .i64 z1) ∧ W.cell? ⟨b, o + k2 * 3 + 2, none⟩ = some (.int .i64 z2) ∧ Below wr.heap.size wr W) (first | go_keep | (simp [*]; done))
            (first
              | (go_at_call 7; refine (rnum_wrong _ sa _ _ q at_ c _ (HRv.out.step (by simp [*])) HC.out).mono ?_; rintro r w' ⟨rfl, rfl⟩)
              | (go_at_call 9; refine (in_wrong _ sa _ _ q at_ c _ (HRv.out.step (by simp [*])) HC.out _ _).mono ?_; rintro r w' ⟨rfl, rfl⟩)
              | (go_at_call 8; refine (rat_any _ sa _ _ q at_ c _ (HRv.out.step (by simp [*]))).mono ?_; rintro r w' ⟨rfl, rfl⟩)
              | (go_at_call 6; refine (rwrong_any _ sa _ _ q at_ c _ (HRv.out.step (by simp [*]))).mono ?_; rw [rerr_yes sa c at_ HC.out]; rintro r w' ⟨rfl, rfl⟩)
              | (go_at_call 10; refine (rend_wrong _ sa _ _ q at_ c _ (HRv.out.step (by simp [*])) HC.out).mono ?_; rintro r w9 ⟨rfl, hb9⟩; have hS : Below wr.heap.size wr w9 := bstep (by simp [*]) (Nat.le_refl _) hb9; have hd1 : w9.cell? ⟨b, o + k2 * 3 + 1, none⟩ = some (.int .i64 z1) := (hS.cell (p := ⟨b, o + k2 * 3 + 1, none⟩) (lt_cell (q := ⟨b, o + k2 * 3 + 1, none⟩) hc1)).trans hc1; have hd2 : w9.cell? ⟨b, o + k2 * 3 + 2, none⟩ = some (.int .i64 z2) := (hS.cell (p := ⟨b, o + k2 * 3 + 2, none⟩) (lt_cell (q := ⟨b, o + k2 * 3 + 2, none⟩) hc2)).trans hc2; clear hb9))
          have HX := Hid.in (bstep HBV.out (Nat.le_refl _) hS)
          clear hne hbr hbd hS hd1 hd2 hc1 hc2 i0 i1
          go_wp2
          go_roundw
          case rel => exact ⟨k2 + 1, by omega, by omega, by go_num, HX.out⟩
          case measure => simp [intOf]; omega
        · have HW := Hid.in (bstep HB.out (Nat.le_refl _) HBV.out)
          by_cases h1 : k2 < n
          · have h2 : 20 ≤ k2 := by omega
            clear hlt
            go_wp2_with fail
            refine (packRuns_any wr sa (HE.out.below HW.out)).mono ?_
            rintro r w7 ⟨rfl, hb7⟩
            have HW7 := Hid.in (bstep HW.out (Nat.le_refl _) hb7)
            clear hb7
            go_wp2
            go_ret
            exact ⟨rfl, HW7.out⟩
          · clear hlt
            go_wp2_with fail
            refine (packRuns_any wr sa (HE.out.below HW.out)).mono ?_
            rintro r w7 ⟨rfl, hb7⟩
            have HW7 := Hid.in (bstep HW.out (Nat.le_refl _) hb7)
            clear hb7
            go_wp2
            go_ret
            exact ⟨rfl, HW7.out⟩

end Go.Proofs.YtkjenbilfjlfdabDoor

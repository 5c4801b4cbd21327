/- DERIVED of the program: PackWrites returns true. Own work. -/
import Derived.Test.YtkjenbilfjlfdaaDoorPkI
import Derived.Deep.RegionLaw
namespace Go.Proofs.YtkjenbilfjlfdaaDoor
open Go.RowKit Go.Extern.Stop Go.Stop Go.Extern

set_option maxHeartbeats 1600000 in
set_option maxRecDepth 20000 in
theorem packWrites_any (w : World) (sa : Nat → Addr) (hE : Env10 w sa) (ao : Option Addr) (cap : Nat) (bs : List Nat) (hL : Lie w ao cap bs) (hlen : bs.length ≤ 140737488351232)
    (al : Option Addr) (capl : Nat) (zs : List Int) (hZ : Ints w al capl zs) :
    Calls Tryd.prog 4 #[.slice ao bs.length cap, .slice al zs.length capl] w fun r w' => r = .returned (.bool true) ∧ Below w.heap.size w w' := by
  have HE := Hid.in hE
  have HL := Hid.in hL
  have HZ := Hid.in hZ
  clear hE hL hZ
  obtain ⟨N, hN⟩ : ∃ N, N = bs.length + 80 := ⟨_, rfl⟩
  have hN0 : (0 : Int) ≤ (bs.length : Int) := by omega
  have hN1 : (bs.length : Int) ≤ (N : Int) := by omega
  have HN := Hid.in hN
  clear hN
  go_enter Tryd.func4, Tryd.ntmps4
  go_wp2_with fail
  refine (roomy_any ao cap bs 11 w HL.out (by omega)).mono ?_
  rw [← HN.out]
  rintro r w1 ⟨rfl, hq, hb1⟩
  have HQ := Hid.in hq
  have HB1 := Hid.in hb1
  clear hq hb1
  go_upto_region 2 with fail
  have HO1 : Hid (Own (w1.alloc (.cells #[] 5)).drew w1.heap.size (some ⟨w1.heap.size, 0, none⟩) 0 0 []) := Hid.in ((Own.lit0 w1 _ (Nat.le_refl _)).step (Below.refl _ _).drew)
  have HL1 : Hid (Lie (w1.alloc (.cells #[] 5)).drew ao cap bs) := Hid.in ((HL.out.step HB1.out).step (below_alloc _ _).drew)
  have HBd : Hid (Below w1.heap.size w1 (w1.alloc (.cells #[] 5)).drew) := Hid.in (below_alloc _ _).drew
  have hbr : Below w1.heap.size w1 w1 := Below.refl _ _
  have hbd : ∀ W, Below w1.heap.size w1 W → Below w1.heap.size w1 W.drew := fun W h => h.drew
  have hba : ∀ W o, Below w1.heap.size w1 W → Below w1.heap.size w1 (W.alloc o) := fun W o h => h.alloc h.size o
  go_region_held3 (fun W => Below w1.heap.size w1 W) (first | go_keep | (simp [*]; done)) (first | (refine step_concat rfl (.tmp 15) (.tmp 16) rfl w1.heap.size w1 (some ⟨w1.heap.size, 0, none⟩) ao 0 0 bs.length cap [] bs (by simp [Act.eval]) HO1.out (by simp [Act.eval]) rfl HL1.out HBd.out (by simp) (by omega) ?_; intro ao2 c2 w2 HO2 HB2; have hb2 := HB2.out))
  simp only [Nat.zero_add, List.nil_append] at HO2 ⊢
  clear hbr hbd hba hb2 HO1 HL1 HBd
  have HQ2 : Hid (w2.heap[w.heap.size]? = some (.cells (bys (bs ++ List.replicate 80 11)).toArray 5 (0, 0))) := Hid.in ((HB2.out.block _ (blk_lt HQ.out)).trans HQ.out)
  go_wp2
  go_loopw [6, 7, 8] (fun x y i wr => ∃ (k : Nat) (acc : List Nat) (a1 a2 : Option Addr) (c1 c2 : Nat), k ≤ zs.length ∧ k ≤ 30 ∧ i = .int .i64 k ∧ acc.length ≤ bs.length + 10 * k ∧ x = .slice a1 acc.length c1 ∧ y = .slice a2 acc.length c2 ∧ Lie wr a1 c1 acc ∧ Lie wr a2 c2 acc ∧
      wr.heap[w.heap.size]? = some (.cells (bys (bs ++ List.replicate 80 11)).toArray 5 (0, 0)) ∧ Below w.heap.size w wr) (fun _ _ i _ => 30 - (intOf i).toNat)
  case atStart => exact ⟨0, bs, _, _, _, _, Nat.zero_le _, Nat.zero_le _, rfl, Nat.le_refl _, rfl, rfl, Lie.head HQ2.out (by have := HN.out; omega), HO2.out.lie, HQ2.out, bstep HB1.out (Nat.le_refl _) HB2.out⟩
  case round =>
    obtain ⟨k, acc, a1, a2, c1, c2, hk, hk30, rfl, hacc, rfl, rfl, hL1, hL2, hq, hb⟩ := hrel
    have HL1 := Hid.in hL1
    have HL2 := Hid.in hL2
    have HQr := Hid.in hq
    have HB := Hid.in hb
    clear hL1 hL2 hq hb HO2 HQ2 HB2 HB1 HQ
    by_cases hlt : k < zs.length ∧ k < 30
    · obtain ⟨hlt, hlt30⟩ := hlt
      obtain ⟨b, o, rfl, hcw⟩ := HZ.out.cell k hlt
      have hcell : wr.cell? ⟨b, o + k, none⟩ = some (.int .i64 zs[k]) := (HB.out.cell (p := ⟨b, o + k, none⟩) (lt_cell (q := ⟨b, o + k, none⟩) hcw)).trans hcw
      have HR := Hid.in (HZ.out.rng _ (List.getElem_mem hlt))
      generalize zs[k] = z at hcell HR hcw
      have HEL := Hid.in (enc_len10 _ (zz_lt z HR.out.1 HR.out.2))
      have hlw := lt_cell (q := ⟨b, o + k, none⟩) hcell
      have i0 : (0 : Int) ≤ (k : Int) := by omega
      have i1 : (k : Int) < (zs.length : Int) := by omega
      clear hcw
      go_upto_region 6 with fail
      have hbr : Below wr.heap.size wr wr := Below.refl _ _
      have hbd : ∀ W, Below wr.heap.size wr W → Below wr.heap.size wr W.drew := fun W h => h.drew
      have HD : Hid (Below wr.heap.size wr wr.drew) := Hid.in (Below.refl _ _).drew
      go_region_held3 (fun W => W.cell? ⟨b, o + k, none⟩ = some (.int .i64 z) ∧ Below wr.heap.size wr W) (first | go_keep | (simp [*]; done))
        (first
          | (go_at_call 13; refine (num_any a1 c1 acc z wr.drew (HL1.out.step HD.out) (by omega) HR.out.1 HR.out.2).mono ?_; rintro r wn ⟨an, cn, rfl, hOn, hbn⟩; have HOn := Hid.in hOn; have HBn := Hid.in hbn; have hcn : wn.cell? ⟨b, o + k, none⟩ = some (.int .i64 z) := (hbn.cell (p := ⟨b, o + k, none⟩) hlw).trans (by simp [*]); have hbN : Below wr.heap.size wr wn := HD.out.trans hbn; clear hOn hbn)
          | (go_at_call 18; refine (refNum_any a2 c2 acc z wn ((HL2.out.step HD.out).step HBn.out) (by omega) HR.out.1 HR.out.2).mono ?_; rintro r wm ⟨am, cm, rfl, hOm, hbm⟩; have HOm := Hid.in hOm; have HBm := Hid.in hbm; have hcm : wm.cell? ⟨b, o + k, none⟩ = some (.int .i64 z) := (hbm.cell (p := ⟨b, o + k, none⟩) (lt_cell (q := ⟨b, o + k, none⟩) hcn)).trans hcn; have hbM : Below wr.heap.size wr wm := bstep hbN (Nat.le_refl _) hbm; clear hOm hbm))
      have HBM := Hid.in hbM
      clear hbr hbd hcn hbN hcm hbM hcell i0 i1
      go_wp2
      go_roundw
      case rel =>
        refine ⟨k + 1, acc ++ enc (zz z), an, am, cn, cm, by omega, by omega, by go_num, ?_, by rw [List.length_append], by rw [List.length_append], HOn.out.lie.step HBm.out, HOm.out.lie, (HBM.out.block _ (blk_lt HQr.out)).trans HQr.out, bstep HB.out (Nat.le_refl _) HBM.out⟩
        rw [List.length_append]
        have := HEL.out
        omega
      case measure => simp [intOf]; omega
    · by_cases h1 : k < zs.length
      · have h2 : 30 ≤ k := by omega
        clear hlt
        go_wp2_with fail
        refine (same_any _ _ _ _ _ _ acc acc wr rfl rfl HL1.out HL2.out (by omega)).mono ?_
        rw [show decide (acc = acc) = true from by simp]
        rintro r w3 ⟨rfl, hb3⟩
        have HB3 := Hid.in hb3
        clear hb3
        go_wp2_with fail
        have HI : Hid (Calls Tryd.prog 19 #[.slice (some ⟨w.heap.size, 0, none⟩) N N, .slice ao bs.length cap, .int .u8 11] w3 fun r w' => r = .returned (.bool true) ∧ Below w3.heap.size w3 w') := Hid.in (by
          have h := intact_any ao w.heap.size cap N bs 11 w3 ((HB3.out.block _ (blk_lt HQr.out)).trans HQr.out) (by have := HN.out; omega) ((HL.out.step HB.out).step HB3.out) (by omega)
          rw [← HN.out] at h
          exact h)
        refine HI.out.mono ?_
        rintro r w4 ⟨rfl, hb4⟩
        have HB4 := Hid.in (bstep (bstep HB.out (Nat.le_refl _) HB3.out) (Nat.le_refl _) hb4)
        clear hb4
        go_wp2_with fail
        refine (packRuns_any w4 sa (HE.out.below HB4.out)).mono ?_
        rintro r w5 ⟨rfl, hb5⟩
        have HB5 := Hid.in (bstep HB4.out (Nat.le_refl _) hb5)
        clear hb5
        go_wp2
        go_ret
        exact ⟨rfl, HB5.out⟩
      · clear hlt
        go_wp2_with fail
        refine (same_any _ _ _ _ _ _ acc acc wr rfl rfl HL1.out HL2.out (by omega)).mono ?_
        rw [show decide (acc = acc) = true from by simp]
        rintro r w3 ⟨rfl, hb3⟩
        have HB3 := Hid.in hb3
        clear hb3
        go_wp2_with fail
        have HI : Hid (Calls Tryd.prog 19 #[.slice (some ⟨w.heap.size, 0, none⟩) N N, .slice ao bs.length cap, .int .u8 11] w3 fun r w' => r = .returned (.bool true) ∧ Below w3.heap.size w3 w') := Hid.in (by
          have h := intact_any ao w.heap.size cap N bs 11 w3 ((HB3.out.block _ (blk_lt HQr.out)).trans HQr.out) (by have := HN.out; omega) ((HL.out.step HB.out).step HB3.out) (by omega)
          rw [← HN.out] at h
          exact h)
        refine HI.out.mono ?_
        rintro r w4 ⟨rfl, hb4⟩
        have HB4 := Hid.in (bstep (bstep HB.out (Nat.le_refl _) HB3.out) (Nat.le_refl _) hb4)
        clear hb4
        go_wp2_with fail
        refine (packRuns_any w4 sa (HE.out.below HB4.out)).mono ?_
        rintro r w5 ⟨rfl, hb5⟩
        have HB5 := Hid.in (bstep HB4.out (Nat.le_refl _) hb5)
        clear hb5
        go_wp2
        go_ret
        exact ⟨rfl, HB5.out⟩

end Go.Proofs.YtkjenbilfjlfdaaDoor

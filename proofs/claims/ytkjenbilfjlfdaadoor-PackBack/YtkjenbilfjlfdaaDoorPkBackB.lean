/- DERIVED of the program: PackBack returns true. Own work. -/
import Derived.Test.YtkjenbilfjlfdaaDoorPkBack
namespace Go.Proofs.YtkjenbilfjlfdaaDoor
open Go.RowKit Go.Extern.Stop Go.Stop Go.Extern

set_option maxHeartbeats 1600000 in
set_option maxRecDepth 20000 in
theorem packBack_any (w : World) (sa : Nat → Addr) (hE : Env10 w sa) (al : Option Addr) (capl : Nat) (zs : List Int) (hZ : Ints w al capl zs) (cut : Int)
    (ao : Option Addr) (cap : Nat) (bs : List Nat) (hL : Lie w ao cap bs) (hby : ∀ x ∈ bs, x < 256) (hlen : bs.length ≤ 140737488351232) :
    Calls Tryd.prog 6 #[.slice al zs.length capl, .int .i64 cut, .slice ao bs.length cap] w fun r w' => r = .returned (.bool true) ∧ Below w.heap.size w w' := by
  have HE := Hid.in hE
  have HL := Hid.in hL
  have HZ := Hid.in hZ
  have HBY := Hid.in hby
  clear hE hL hZ hby
  obtain ⟨zt, hzt⟩ : ∃ zt, zt = zs.take 20 := ⟨_, rfl⟩
  have HZT : Hid (Ints w al capl zt) := Hid.in (by rw [hzt]; exact HZ.out.take 20)
  have HZ20 : Hid (zt.length ≤ 20) := Hid.in (by rw [hzt, List.length_take]; omega)
  have HZA : Hid (20 < zs.length → zt.length = 20) := Hid.in (fun h => by rw [hzt, List.length_take]; omega)
  have HZB : Hid (¬ 20 < zs.length → zt.length = zs.length) := Hid.in (fun h => by rw [hzt, List.length_take]; omega)
  have hle := HZ.out.le
  clear hzt
  go_enter Tryd.func6, Tryd.ntmps6
  go_upto_if 15 with fail
  go_cut [] (fun wd => wd.heap[w.heap.size]? = some (.cells #[.slice al zt.length capl] 34 (0, 0)) ∧ Below w.heap.size w wd)
  case first =>
    by_cases h : 20 < zs.length
    · have HA := Hid.in (HZA.out h)
      have hc20 : ¬ (capl : Int) < 20 := by omega
      go_wp2_with fail
      go_meet
      case rel =>
        rw [HA.out]
        exact ⟨heap_alloc_new w _, below_alloc _ _⟩
    · have HA := Hid.in (HZB.out h)
      go_wp2_with fail
      go_meet
      case rel =>
        rw [HA.out]
        exact ⟨heap_alloc_new w _, below_alloc _ _⟩
  case rest =>
  obtain ⟨hg, hb⟩ := hcut
  have HG := Hid.in hg
  have HB0 := Hid.in hb
  clear hg hb HZ HZA HZB
  have hz20 := HZ20.out
  go_wp2
  go_loopw [7, 8] (fun v i wr => ∃ (k : Nat) (a : Option Addr) (c : Nat), k ≤ zt.length ∧ i = .int .i64 k ∧ v = .slice a (encs (zt.take k)).length c ∧ Lie wr a c (encs (zt.take k)) ∧ wr.heap[w.heap.size]? = some (.cells #[.slice al zt.length capl] 34 (0, 0)) ∧ Below w.heap.size w wr) (fun _ i _ => 20 - (intOf i).toNat)
  case atStart => exact ⟨0, none, 0, Nat.zero_le _, rfl, rfl, Lie.nil _, HG.out, HB0.out⟩
  case round =>
    obtain ⟨k, a, c, hk, rfl, rfl, hLr, hgr, hb⟩ := hrel
    have HLr := Hid.in hLr
    have HGr := Hid.in hgr
    have HB := Hid.in hb
    clear hLr hgr hb HG HB0
    have k0 : wr.cell? ⟨w.heap.size, 0, none⟩ = some (.slice al zt.length capl) := blk_cell HGr.out rfl
    have hel : (encs (zt.take k)).length ≤ 10 * k := by
      have h := encs_len (zt.take k) (fun z hz => HZT.out.rng z (List.mem_of_mem_take hz))
      rw [List.length_take] at h
      omega
    by_cases hlt : k < zt.length
    · obtain ⟨b, o, rfl, hcw⟩ := HZT.out.cell k hlt
      have hcell : wr.cell? ⟨b, o + k, none⟩ = some (.int .i64 zt[k]) := (HB.out.cell (p := ⟨b, o + k, none⟩) (lt_cell (q := ⟨b, o + k, none⟩) hcw)).trans hcw
      have HR := Hid.in (HZT.out.rng _ (List.getElem_mem hlt))
      have HS := Hid.in (encs_snoc zt k hlt)
      generalize zt[k] = z at hcell HR hcw HS
      clear hcw
      go_wp2_with fail
      refine (num_any a c _ z wr HLr.out (by omega) HR.out.1 HR.out.2).mono ?_
      rintro r w2 ⟨a2, c2, rfl, hO, hb2⟩
      have HO := Hid.in hO
      have HB2 := Hid.in hb2
      clear hO hb2
      go_wp2
      go_roundw
      case rel => exact ⟨k + 1, a2, c2, by omega, by go_num, by rw [HS.out, List.length_append], by rw [HS.out]; exact HO.out.lie, (HB2.out.block _ (blk_lt HGr.out)).trans HGr.out, bstep HB.out (Nat.le_refl _) HB2.out⟩
      case measure => simp [intOf]; omega
    · have hkl : zt.take k = zt := List.take_of_length_le (by omega)
      rw [hkl] at HLr hel ⊢
      clear hkl
      obtain ⟨w0, w1⟩ := wi_le cut 0 (encs zt).length (by omega) (by omega)
      go_wp2_with fail
      refine (within_any cut 0 (encs zt).length wr (by omega) (by omega) (by omega)).mono ?_
      generalize hkk : wi cut 0 (encs zt).length = kk at w0 w1
      rintro r w' ⟨rfl, rfl⟩
      clear hkk
      go_wp2_with fail
      refine (read_any ao cap bs w' sa (HL.out.step HB.out) HBY.out (by omega)).mono ?_
      rintro r w2 ⟨q, rfl, hR, hb2⟩
      have HR2 := Hid.in hR
      have HQ : Hid (w.heap.size ≤ q) := Hid.in (by have := hR.rng.1; have := HB.out.size; omega)
      have HB2 := Hid.in hb2
      have HW2 := Hid.in (bstep HB.out (Nat.le_refl _) hb2)
      clear hR hb2
      have hkc : kk ≤ c := by have := HLr.out.1; omega
      go_wp2_with fail
      refine (back1_any w2 sa (HE.out.below HW2.out) zt al capl w.heap.size kk (HZT.out.step HW2.out) ((HB2.out.block _ (blk_lt HGr.out)).trans HGr.out) hz20 a c kk ((HLr.out.step HB2.out).take kk) (by omega) (by rw [List.length_take]; omega)).mono ?_
      rintro r w3 ⟨c3, at3, rfl, hiff, hb3⟩
      have HB3 := Hid.in hb3
      have HW3 := Hid.in (bstep HW2.out (Nat.le_refl _) hb3)
      clear hb3
      by_cases hc3 : c3 = 0
      · have hkl : ((kk : Int) == ((encs zt).length : Int)) = true := by simp; have := hiff.1 hc3; omega
        subst hc3
        rw [rerr_no]
        clear hiff
        go_wp2_with fail
        refine (rnum_any w3 sa (HE.out.below HW3.out) _ _ q 0 0 bs (HR2.out.step HB3.out)).mono ?_
        obtain ⟨d, u, s, hd⟩ : ∃ d u s, dec 0 0 (bs.drop 0) = (d, u, s) := ⟨_, _, _, rfl⟩
        by_cases hd0 : d = 0
        · subst hd0
          obtain ⟨v, e1, e2, e3, e4, e5, e6⟩ := dec_ok _ 0 0 u s (by omega) HBY.out hd
          simp only [Nat.mul_zero, Nat.pow_zero, Nat.mul_one, Nat.zero_add, Nat.sub_zero] at e1 e2 e5
          subst e1
          have hu : u < 18446744073709551616 := by simpa using e5
          have hur := uz_le u hu
          rw [numS_ok hd hu]
          rintro r w4 ⟨rfl, hR4, hg4⟩
          have HR4 := Hid.in hR4
          have HW4 := Hid.in (wrote HW3.out hg4 (Nat.le_refl _) HQ.out)
          have HT : Hid (bs.take s = enc u) := Hid.in (by rw [e2]; exact e3)
          have HSU : Hid (s = (enc u).length) := Hid.in e2
          have HSB : Hid (s ≤ bs.length) := Hid.in (by rw [e2]; exact e4)
          clear hR4 hg4 hd e2 e3 e4 e5 e6 hu
          go_wp2_with fail
          refine (rwrong_any w4 sa _ _ q _ 0 bs HR4.out).mono ?_
          rw [rerr_no]
          rintro r w' ⟨rfl, rfl⟩
          go_wp2_with fail
          refine (num_any none 0 [] (uz u) _ (Lie.nil _) (by decide) hur.1 hur.2).mono ?_
          rw [zz_uz, List.nil_append, List.length_nil, Nat.zero_add]
          rintro r w5 ⟨a5, c5, rfl, hO5, hb5⟩
          have HO5 := Hid.in hO5
          have HB5 := Hid.in hb5
          have HW5 := Hid.in (bstep HW4.out (Nat.le_refl _) hb5)
          clear hO5 hb5
          go_wp2_with fail
          refine (rat_any w5 sa _ _ q _ 0 bs (HR4.out.step HB5.out)).mono ?_
          rw [Nat.zero_add]
          rintro r w' ⟨rfl, rfl⟩
          have hsb := HSB.out
          have hbc := HL.out.1
          go_wp2_with fail
          refine (same_any _ _ _ _ _ _ (enc u) (bs.take s) _ rfl (by rw [HT.out]; exact HSU.out) HO5.out.lie ((HL.out.step HW5.out).take s) (by rw [← HSU.out]; omega)).mono ?_
          rw [HT.out, show decide (enc u = enc u) = true from by simp]
          rintro r w6 ⟨rfl, hb6⟩
          have HW6 := Hid.in (bstep HW5.out (Nat.le_refl _) hb6)
          clear hb6
          go_wp2_with fail
          refine (packRuns_any w6 sa (HE.out.below HW6.out)).mono ?_
          rintro r w7 ⟨rfl, hb7⟩
          have HW7 := Hid.in (bstep HW6.out (Nat.le_refl _) hb7)
          clear hb7
          go_wp2
          go_ret
          exact ⟨rfl, HW7.out⟩
        · rw [numS_bad hd hd0]
          rintro r w4 ⟨rfl, hR4, hg4⟩
          have HR4 := Hid.in hR4
          have HW4 := Hid.in (wrote HW3.out hg4 (Nat.le_refl _) HQ.out)
          have HD0 := Hid.in hd0
          clear hR4 hg4 hd hd0
          go_wp2_with fail
          refine (rwrong_any w4 sa _ _ q _ d bs HR4.out).mono ?_
          rw [rerr_yes _ _ _ HD0.out]
          rintro r w' ⟨rfl, rfl⟩
          go_wp2_with fail
          refine (packRuns_any _ sa (HE.out.below HW4.out)).mono ?_
          rintro r w7 ⟨rfl, hb7⟩
          have HW7 := Hid.in (bstep HW4.out (Nat.le_refl _) hb7)
          clear hb7
          go_wp2
          go_ret
          exact ⟨rfl, HW7.out⟩
      · have hkl : ((kk : Int) == ((encs zt).length : Int)) = false := by simp; intro h; exact hc3 (hiff.2 (by omega))
        rw [rerr_yes _ _ _ hc3]
        clear hiff hc3
        go_wp2_with fail
        refine (rnum_any w3 sa (HE.out.below HW3.out) _ _ q 0 0 bs (HR2.out.step HB3.out)).mono ?_
        obtain ⟨d, u, s, hd⟩ : ∃ d u s, dec 0 0 (bs.drop 0) = (d, u, s) := ⟨_, _, _, rfl⟩
        by_cases hd0 : d = 0
        · subst hd0
          obtain ⟨v, e1, e2, e3, e4, e5, e6⟩ := dec_ok _ 0 0 u s (by omega) HBY.out hd
          simp only [Nat.mul_zero, Nat.pow_zero, Nat.mul_one, Nat.zero_add, Nat.sub_zero] at e1 e2 e5
          subst e1
          have hu : u < 18446744073709551616 := by simpa using e5
          have hur := uz_le u hu
          rw [numS_ok hd hu]
          rintro r w4 ⟨rfl, hR4, hg4⟩
          have HR4 := Hid.in hR4
          have HW4 := Hid.in (wrote HW3.out hg4 (Nat.le_refl _) HQ.out)
          have HT : Hid (bs.take s = enc u) := Hid.in (by rw [e2]; exact e3)
          have HSU : Hid (s = (enc u).length) := Hid.in e2
          have HSB : Hid (s ≤ bs.length) := Hid.in (by rw [e2]; exact e4)
          clear hR4 hg4 hd e2 e3 e4 e5 e6 hu
          go_wp2_with fail
          refine (rwrong_any w4 sa _ _ q _ 0 bs HR4.out).mono ?_
          rw [rerr_no]
          rintro r w' ⟨rfl, rfl⟩
          go_wp2_with fail
          refine (num_any none 0 [] (uz u) _ (Lie.nil _) (by decide) hur.1 hur.2).mono ?_
          rw [zz_uz, List.nil_append, List.length_nil, Nat.zero_add]
          rintro r w5 ⟨a5, c5, rfl, hO5, hb5⟩
          have HO5 := Hid.in hO5
          have HB5 := Hid.in hb5
          have HW5 := Hid.in (bstep HW4.out (Nat.le_refl _) hb5)
          clear hO5 hb5
          go_wp2_with fail
          refine (rat_any w5 sa _ _ q _ 0 bs (HR4.out.step HB5.out)).mono ?_
          rw [Nat.zero_add]
          rintro r w' ⟨rfl, rfl⟩
          have hsb := HSB.out
          have hbc := HL.out.1
          go_wp2_with fail
          refine (same_any _ _ _ _ _ _ (enc u) (bs.take s) _ rfl (by rw [HT.out]; exact HSU.out) HO5.out.lie ((HL.out.step HW5.out).take s) (by rw [← HSU.out]; omega)).mono ?_
          rw [HT.out, show decide (enc u = enc u) = true from by simp]
          rintro r w6 ⟨rfl, hb6⟩
          have HW6 := Hid.in (bstep HW5.out (Nat.le_refl _) hb6)
          clear hb6
          go_wp2_with fail
          refine (packRuns_any w6 sa (HE.out.below HW6.out)).mono ?_
          rintro r w7 ⟨rfl, hb7⟩
          have HW7 := Hid.in (bstep HW6.out (Nat.le_refl _) hb7)
          clear hb7
          go_wp2
          go_ret
          exact ⟨rfl, HW7.out⟩
        · rw [numS_bad hd hd0]
          rintro r w4 ⟨rfl, hR4, hg4⟩
          have HR4 := Hid.in hR4
          have HW4 := Hid.in (wrote HW3.out hg4 (Nat.le_refl _) HQ.out)
          have HD0 := Hid.in hd0
          clear hR4 hg4 hd hd0
          go_wp2_with fail
          refine (rwrong_any w4 sa _ _ q _ d bs HR4.out).mono ?_
          rw [rerr_yes _ _ _ HD0.out]
          rintro r w' ⟨rfl, rfl⟩
          go_wp2_with fail
          refine (packRuns_any _ sa (HE.out.below HW4.out)).mono ?_
          rintro r w7 ⟨rfl, hb7⟩
          have HW7 := Hid.in (bstep HW4.out (Nat.le_refl _) hb7)
          clear hb7
          go_wp2
          go_ret
          exact ⟨rfl, HW7.out⟩

end Go.Proofs.YtkjenbilfjlfdaaDoor

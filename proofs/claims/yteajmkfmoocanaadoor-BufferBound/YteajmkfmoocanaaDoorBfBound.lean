/- DERIVED of the program: BufferBound returns true. Own work. -/
import Derived.Test.YteajmkfmoocanaaDoorBfSame
namespace Go.Proofs.YteajmkfmoocanaaDoor
open Go.RowKit Go.Extern.Stop Go.Stop Go.Extern

set_option maxHeartbeats 12800000 in
set_option maxRecDepth 20000 in
theorem bufferBound_any (w : World) (sa : Nat → Addr) (hE : Env10 w sa) (n0 : Int) (ao : Option Addr) (cap : Nat) (zs : List Int) (hI : Ints w ao cap zs) :
    Calls Tryd.prog 6 #[.int .i64 n0, .slice ao zs.length cap] w fun r w' => r = .returned (.bool true) ∧ Below w.heap.size w w' := by
  have HE := Hid.in hE
  have HI := Hid.in hI
  clear hE hI
  have hw0 := wI_le n0 1 8 (by omega)
  obtain ⟨m, hm⟩ : ∃ m : Nat, wI n0 1 8 = (m : Int) := ⟨(wI n0 1 8).toNat, by omega⟩
  have h1 : 1 ≤ m := by omega
  have h8 : m ≤ 8 := by omega
  have HM := Hid.in hm
  obtain ⟨K, hK⟩ : ∃ K, zs.length = K := ⟨_, rfl⟩
  rw [hK]
  have HK := Hid.in hK
  clear hw0 hm hK
  go_enter Tryd.func6, Tryd.ntmps6
  go_wp2_with fail
  refine (within_i n0 1 8 w (by omega) (by omega) (by omega)).mono ?_
  rw [HM.out]
  rintro r w' ⟨rfl, rfl⟩
  go_wp2_with fail
  refine (bnew_ok w' m h1 h8).mono ?_
  rintro r w1 ⟨rfl, hT, hb⟩
  have HT1 := Hid.in hT
  have HB1 := Hid.in hb
  clear hT hb
  go_wp2
  go_loopw [8] (fun c wr => ∃ (i : Nat) (S : List Nat) (L : List (Int × Int)), i ≤ K ∧ i ≤ 40 ∧ c = .int .i64 (i : Int) ∧ Buf 64 32 wr w'.heap.size S m L ∧ Below w'.heap.size w' wr) (fun c _ => 40 - (intOf c).toNat)
  case atStart => exact ⟨0, _, _, Nat.zero_le _, Nat.zero_le _, rfl, HT1.out, HB1.out⟩
  case round =>
    obtain ⟨i, S, L, hiK, hi40, rfl, hT, hb⟩ := hrel
    have HT := Hid.in hT
    have HB := Hid.in hb
    clear hT hb HT1 HB1
    rename World => wo
    by_cases hlt : i < K ∧ i < 40
    · obtain ⟨hin, hi4⟩ := hlt
      obtain ⟨lb, lq, rfl, hz⟩ := HI.out.cell i (by rw [HK.out]; exact hin)
      have hz1 : wo.cell? ⟨lb, lq + i, none⟩ = some (.int .i64 (zs[i]'(by rw [HK.out]; exact hin))) := (HB.out.cell (p := ⟨lb, lq + i, none⟩) (lt_cell (q := ⟨lb, lq + i, none⟩) hz)).trans hz
      have HLB : Hid (lb < w'.heap.size) := Hid.in (lt_cell (q := ⟨lb, lq + i, none⟩) hz)
      generalize zs[i]'(by rw [HK.out]; exact hin) = z at hz1
      have i1 : (i : Int) < (K : Int) := by omega
      have i2 : (i : Int) < 40 := by omega
      clear hz
      obtain ⟨N, hN⟩ : ∃ N, L.length = N := ⟨_, rfl⟩
      have HN := Hid.in hN
      have hNm : N ≤ m := by rw [← hN]; exact HT.out.le
      clear hN
      go_wp2_with fail
      refine (blist_c wo _ m S L HT.out N HN.out).mono ?_
      rintro r w2 ⟨a2, c2, rfl, hO2, hb⟩
      have HO2 := Hid.in hO2
      have HT2 := Hid.in (HT.out.step hb)
      have HB2 := Hid.in (bstep HB.out (Nat.le_refl _) hb)
      have HN2 : Hid (∀ k, oblk a2 = some k → k ∉ S) := Hid.in fun k hk => HT.out.far (hO2.blk k hk).1
      have hz2 : w2.cell? ⟨lb, lq + i, none⟩ = some (.int .i64 z) := (hb.cell (p := ⟨lb, lq + i, none⟩) (lt_cell (q := ⟨lb, lq + i, none⟩) hz1)).trans hz1
      clear hO2 hb hz1 HT HB
      by_cases hf : (0 ≤ z ∧ z ≤ 127) ∧ N < m
      · obtain ⟨⟨hz0, hz9⟩, hNl⟩ := hf
        have HP : Hid (pushL m L z (i : Int) = (0, L ++ [(z, (i : Int))])) := Hid.in (pushL_ok _ (wB_yes ⟨hz0, hz9⟩) (by rw [HN.out]; exact hNl))
        go_wp2_with fail
        refine (bpush_c w2 sa (HE.out.below HB2.out) _ m _ _ HT2.out z (i : Int) 0 _ HP.out).mono ?_
        rintro r w3 ⟨S3, rfl, hW⟩
        have HT3 := Hid.in hW.b
        have HB3 := Hid.in (hW.below HT2.out HB2.out (Nat.le_refl _))
        have HO3 := Hid.in (OwnA.fr HO2.out hW.f HN2.out)
        have hz3 : w3.cell? ⟨lb, lq + i, none⟩ = some (.int .i64 z) := hW.f.cell hz2 (fun hm => absurd (HT2.out.mem lb hm).1 (by have := HLB.out; omega))
        clear hW HT2 HB2 hz2
        rw [perr_none]
        have HNL : Hid ((L ++ [(z, (i : Int))]).length = N + 1) := Hid.in (by rw [List.length_append, HN.out]; rfl)
        obtain ⟨M, hM⟩ : ∃ M, N + 1 = M := ⟨_, rfl⟩
        rw [hM] at HNL
        go_wp2_with fail
        refine (blist_c w3 _ m _ _ HT3.out M HNL.out).mono ?_
        rintro r w4 ⟨a4, c4, rfl, hO4, hb⟩
        have HO4 := Hid.in hO4
        have HT4 := Hid.in (HT3.out.step hb)
        have HB4 := Hid.in (bstep HB3.out (Nat.le_refl _) hb)
        have HO6 := Hid.in (OwnA.step HO3.out hb)
        have hz4 : w4.cell? ⟨lb, lq + i, none⟩ = some (.int .i64 z) := (hb.cell (p := ⟨lb, lq + i, none⟩) (lt_cell (q := ⟨lb, lq + i, none⟩) hz3)).trans hz3
        clear hO4 hb HT3 HB3 HO3 hz3
        have HO5 : Hid (OwnW 32 w4 w3.heap.size a4 N c4 L) := Hid.in (by have := HO4.out.take N (by omega); rwa [← List.map_take, List.take_left' HN.out] at this)
        have hsl := slice_toW a4 M c4 N (by have := HO4.out.le; omega)
        have i4 : z < 128 := by omega
        have i5 : (N : Int) < (m : Int) := by omega
        have i6 : ((M : Int) != (N : Int) + 1) = false := by rw [← hM]; simp
        go_wp2_with fail
        refine (same_writes w4 _ _ a4 a2 N c4 c2 L HO5.out HO6.out (by omega)).mono ?_
        rintro r w5 ⟨rfl, hb⟩
        have HT5 := Hid.in (HT4.out.step hb)
        have HB5 := Hid.in (bstep HB4.out (Nat.le_refl _) hb)
        clear hb
        have HD : Hid (decide (0 < (L ++ [(z, (i : Int))]).length) = true) := Hid.in (by rw [decide_eq_true]; rw [HNL.out]; omega)
        have i7 : decide (0 < M) = true := by rw [decide_eq_true_eq]; omega
        clear hsl HO5 HO6 HO4 HT4 HB4 HO2 HN2 hz4
        by_cases h5 : i % 5 = 4
        · have j5 : ((i : Int) % 5 == 4) = true := by simp; omega
          go_wp2_with fail
          refine (bpop_c w5 _ m _ _ HT5.out _ HD.out).mono ?_
          rintro r w6 ⟨rfl, hW⟩
          have HT6 := Hid.in hW.b
          have HB6 := Hid.in (hW.below HT5.out HB5.out (Nat.le_refl _))
          clear hW HT5 HB5
          go_wp2
          go_roundw
          case rel => exact ⟨i + 1, _, _, by omega, by omega, by go_num, HT6.out, HB6.out⟩
          case measure => simp [intOf]; omega
        · have j5 : ((i : Int) % 5 == 4) = false := by simp; omega
          go_wp2
          go_roundw
          case rel => exact ⟨i + 1, _, _, by omega, by omega, by go_num, HT5.out, HB5.out⟩
          case measure => simp [intOf]; omega
      · have HP : Hid (∃ c, c ≠ 0 ∧ pushL m L z (i : Int) = (c, L)) := Hid.in (by
          cases hwb : wB z 0 127 with
          | false => exact ⟨1, by decide, pushL_arg _ hwb⟩
          | true => exact ⟨6, by decide, pushL_full _ hwb (by rw [HN.out]; exact Nat.le_of_not_lt fun hh => hf ⟨wB_of hwb, hh⟩)⟩)
        obtain ⟨c, hc0, hcp⟩ := HP.out
        have HC := Hid.in hcp
        have HC0 := Hid.in hc0
        clear HP hcp hc0
        go_wp2_with fail
        refine (bpush_c w2 sa (HE.out.below HB2.out) _ m _ _ HT2.out z (i : Int) c _ HC.out).mono ?_
        rintro r w3 ⟨S3, rfl, hW⟩
        have HT3 := Hid.in hW.b
        have HB3 := Hid.in (hW.below HT2.out HB2.out (Nat.le_refl _))
        have HO3 := Hid.in (OwnA.fr HO2.out hW.f HN2.out)
        have hz3 : w3.cell? ⟨lb, lq + i, none⟩ = some (.int .i64 z) := hW.f.cell hz2 (fun hm => absurd (HT2.out.mem lb hm).1 (by have := HLB.out; omega))
        clear hW HT2 HB2 hz2
        rw [perr_some _ _ _ _ HC0.out]
        go_wp2_with fail
        refine (blist_c w3 _ m _ _ HT3.out N HN.out).mono ?_
        rintro r w4 ⟨a4, c4, rfl, hO4, hb⟩
        have HO4 := Hid.in hO4
        have HT4 := Hid.in (HT3.out.step hb)
        have HB4 := Hid.in (bstep HB3.out (Nat.le_refl _) hb)
        have HO6 := Hid.in (OwnA.step HO3.out hb)
        have hz4 : w4.cell? ⟨lb, lq + i, none⟩ = some (.int .i64 z) := (hb.cell (p := ⟨lb, lq + i, none⟩) (lt_cell (q := ⟨lb, lq + i, none⟩) hz3)).trans hz3
        clear hO4 hb HT3 HB3 HO3 hz3
        have HFF := Hid.in hf
        clear hf
        go_upto_region 11 with fail
        go_cut [12] (fun f wx => f = .bool false ∧ wx = w4)
        case first =>
          by_cases k1 : 0 ≤ z
          · by_cases k2 : z < 128
            · have k3 : ¬ (N : Int) < (m : Int) := fun hh => HFF.out ⟨⟨k1, by omega⟩, by omega⟩
              go_wp2
              go_meet
              case rel => exact ⟨rfl, rfl⟩
            · go_wp2
              go_meet
              case rel => exact ⟨rfl, rfl⟩
          · go_wp2
            go_meet
            case rel => exact ⟨rfl, rfl⟩
        case rest =>
        obtain ⟨rfl, rfl⟩ := hcut
        rename World => w4
        go_wp2_with fail
        refine (same_writes w4 _ _ a4 a2 N c4 c2 L HO4.out HO6.out (by omega)).mono ?_
        rintro r w5 ⟨rfl, hb⟩
        have HT5 := Hid.in (HT4.out.step hb)
        have HB5 := Hid.in (bstep HB4.out (Nat.le_refl _) hb)
        clear hb
        obtain ⟨bb, hbb⟩ : ∃ bb, decide (0 < N) = bb := ⟨_, rfl⟩
        have HD : Hid (decide (0 < L.length) = bb) := Hid.in (by rw [HN.out]; exact hbb)
        clear HO6 HO4 HT4 HB4 HO2 HN2 hz4
        by_cases h5 : i % 5 = 4
        · have j5 : ((i : Int) % 5 == 4) = true := by simp; omega
          go_wp2_with fail
          refine (bpop_c w5 _ m _ _ HT5.out _ HD.out).mono ?_
          rintro r w6 ⟨rfl, hW⟩
          have HT6 := Hid.in hW.b
          have HB6 := Hid.in (hW.below HT5.out HB5.out (Nat.le_refl _))
          clear hW HT5 HB5
          go_wp2
          go_roundw
          case rel => exact ⟨i + 1, _, _, by omega, by omega, by go_num, HT6.out, HB6.out⟩
          case measure => simp [intOf]; omega
        · have j5 : ((i : Int) % 5 == 4) = false := by simp; omega
          go_wp2
          go_roundw
          case rel => exact ⟨i + 1, _, _, by omega, by omega, by go_num, HT5.out, HB5.out⟩
          case measure => simp [intOf]; omega
    · by_cases hin : i < K
      · have i1 : (i : Int) < (K : Int) := by omega
        obtain rfl : i = 40 := by omega
        go_wp2_with fail
        refine (bufferRuns_any _ sa (HE.out.below HB.out)).mono ?_
        rintro r w3 ⟨rfl, hb⟩
        have HB3 := Hid.in (bstep HB.out (Nat.le_refl _) hb)
        clear hb
        go_wp2
        go_ret
        exact ⟨rfl, HB3.out⟩
      · have i1 : ¬ (i : Int) < (K : Int) := by omega
        go_wp2_with fail
        refine (bufferRuns_any _ sa (HE.out.below HB.out)).mono ?_
        rintro r w3 ⟨rfl, hb⟩
        have HB3 := Hid.in (bstep HB.out (Nat.le_refl _) hb)
        clear hb
        go_wp2
        go_ret
        exact ⟨rfl, HB3.out⟩

end Go.Proofs.YteajmkfmoocanaaDoor

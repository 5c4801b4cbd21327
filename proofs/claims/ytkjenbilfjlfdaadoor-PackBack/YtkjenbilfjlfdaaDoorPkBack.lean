/- DERIVED of the program: PackBack returns true. Own work. -/
import Derived.Test.YtkjenbilfjlfdaaDoorPkJ
namespace Go.Proofs.YtkjenbilfjlfdaaDoor
open Go.RowKit Go.Extern.Stop Go.Stop Go.Extern

set_option maxHeartbeats 1600000 in
set_option maxRecDepth 20000 in
theorem back1_any (w : World) (sa : Nat → Addr) (hE : Env10 w sa) (zs : List Int) (al : Option Addr) (capl g k : Nat) (hZ : Ints w al capl zs) (hg : w.heap[g]? = some (.cells #[.slice al zs.length capl] 34 (0, 0))) (hzl : zs.length ≤ 20)
    (ao : Option Addr) (cap n : Nat) (hL : Lie w ao cap ((encs zs).take k)) (hk : k ≤ (encs zs).length) (hn : n = ((encs zs).take k).length) :
    Calls Tryd.prog 25 #[.slice ao n cap, .pointer (some ⟨g, 0, none⟩)] w fun r w' => ∃ c at_, r = .returned (rerr sa c at_) ∧ (c = 0 ↔ k = (encs zs).length) ∧ Below w.heap.size w w' := by
  subst hn
  have HE := Hid.in hE
  have HZ := Hid.in hZ
  have HG := Hid.in hg
  have HL := Hid.in hL
  have HK := Hid.in hk
  have hel := encs_len zs hZ.rng
  have HLN : Hid (((encs zs).take k).length = k) := Hid.in (by rw [List.length_take]; omega)
  have HBY : Hid (∀ x ∈ (encs zs).take k, x < 256) := Hid.in (fun x hx => encs_byte zs x (List.mem_of_mem_take hx))
  have HSM : Hid (((encs zs).take k).length ≤ 140737488355328) := Hid.in (by rw [HLN.out]; omega)
  clear hE hZ hg hL hk hel
  generalize hbs : (encs zs).take k = bs at HL HLN HBY HSM
  have HBS := Hid.in hbs
  clear hbs
  go_enter Tryd.func25, Tryd.ntmps25
  go_wp2_with fail
  refine (read_any ao cap bs w sa HL.out HBY.out HSM.out).mono ?_
  rintro r w1 ⟨q, rfl, hR, hb1⟩
  have HR1 := Hid.in hR
  have HQ := Hid.in hR.rng.1
  have HB1 := Hid.in hb1
  clear hR hb1
  go_wp2
  go_loopw [5] (fun i wr => ∃ (j at_ c : Nat), j ≤ zs.length ∧ i = .int .i64 j ∧ Rd wr sa w.heap.size w1.heap.size q bs at_ c ∧ (c = 0 → at_ = (encs (zs.take j)).length ∧ at_ ≤ k) ∧ (k = (encs zs).length → c = 0) ∧ Below w.heap.size w wr) (fun i _ => zs.length - (intOf i).toNat)
  case atStart => exact ⟨0, 0, 0, Nat.zero_le _, rfl, HR1.out, fun _ => ⟨rfl, Nat.zero_le _⟩, fun _ => rfl, HB1.out⟩
  case round =>
    obtain ⟨j, at_, c, hj, rfl, hR, hc0, hkc, hb⟩ := hrel
    have HR := Hid.in hR
    have HB := Hid.in hb
    have HC := Hid.in hc0
    have HKC := Hid.in hkc
    clear hR hb hc0 hkc HR1 HB1
    have k0 : wr.cell? ⟨g, 0, none⟩ = some (.slice al zs.length capl) := blk_cell ((HB.out.block g (blk_lt HG.out)).trans HG.out) rfl
    by_cases hlt : j < zs.length
    · obtain ⟨b, o, rfl, hcw⟩ := HZ.out.cell j hlt
      have HCW := Hid.in hcw
      have HLT := Hid.in (lt_cell (q := ⟨b, o + j, none⟩) hcw)
      clear hcw
      go_wp2_with fail
      refine (rnum_any wr sa (HE.out.below HB.out) _ _ q at_ c bs HR.out).mono ?_
      by_cases hc : c = 0
      · subst hc
        obtain ⟨hat, hatk⟩ := HC.out rfl
        by_cases hw : (encs (zs.take (j + 1))).length ≤ k
        · have hd := dec_whole zs j k hlt HZ.out.rng hw
          have hzr := HZ.out.rng _ (List.getElem_mem hlt)
          rw [HBS.out, ← hat] at hd
          rw [numS_ok hd (zz_lt _ hzr.1 hzr.2), uz_zz]
          rintro r w2 ⟨rfl, hR2, hg2⟩
          have HR2 := Hid.in hR2
          have HB2 := Hid.in (wrote HB.out hg2 (Nat.le_refl _) HQ.out)
          have HAT : Hid (at_ + (enc (zz zs[j])).length = (encs (zs.take (j + 1))).length) := Hid.in (by rw [encs_snoc zs j hlt, List.length_append, hat])
          have HW := Hid.in hw
          clear hR2 hg2 hd hzr hat hatk hw k0
          have k0 : w2.cell? ⟨g, 0, none⟩ = some (.slice (some ⟨b, o, none⟩) zs.length capl) := blk_cell ((HB2.out.block g (blk_lt HG.out)).trans HG.out) rfl
          have k1 : w2.cell? ⟨b, o + j, none⟩ = some (.int .i64 zs[j]) := (HB2.out.cell (p := ⟨b, o + j, none⟩) HLT.out).trans HCW.out
          go_wp2_with fail
          refine (rwrong_any w2 sa _ _ q _ 0 bs HR2.out).mono ?_
          rw [rerr_no]
          rintro r w' ⟨rfl, rfl⟩
          go_wp2
          go_roundw
          case rel => exact ⟨j + 1, _, 0, by omega, by go_num, HR2.out, fun _ => ⟨HAT.out, by rw [HAT.out]; exact HW.out⟩, fun _ => rfl, HB2.out⟩
          case measure => simp [intOf]; omega
        · have hd := dec_part zs j k hlt HZ.out.rng (by omega) (by omega)
          rw [HBS.out, ← hat] at hd
          have HNK : Hid (¬ k = (encs zs).length) := Hid.in (by
            intro e
            have h1 := congrArg List.length (encs_split zs (j + 1))
            rw [List.length_append] at h1
            omega)
          rw [numS_bad hd (by decide)]
          rintro r w2 ⟨rfl, hR2, hg2⟩
          have HR2 := Hid.in hR2
          have HB2 := Hid.in (wrote HB.out hg2 (Nat.le_refl _) HQ.out)
          clear hR2 hg2 hd hat hatk hw k0
          go_wp2_with fail
          refine (rwrong_any w2 sa _ _ q _ 3 bs HR2.out).mono ?_
          rw [rerr_yes _ _ _ (by decide)]
          rintro r w' ⟨rfl, rfl⟩
          go_wp2
          go_roundw
          case rel => exact ⟨j + 1, _, 3, by omega, by go_num, HR2.out, fun h => absurd h (by decide), fun h => absurd h HNK.out, HB2.out⟩
          case measure => simp [intOf]; omega
      · rw [numS_wrong hc]
        rintro r w2 ⟨rfl, hR2, hg2⟩
        have HR2 := Hid.in hR2
        have HB2 := Hid.in (wrote HB.out hg2 (Nat.le_refl _) HQ.out)
        have HNC := Hid.in hc
        clear hR2 hg2 k0 hc
        go_wp2_with fail
        refine (rwrong_any w2 sa _ _ q _ c bs HR2.out).mono ?_
        rw [rerr_yes _ _ _ HNC.out]
        rintro r w' ⟨rfl, rfl⟩
        go_wp2
        go_roundw
        case rel => exact ⟨j + 1, _, c, by omega, by go_num, HR2.out, fun h => absurd h HNC.out, HKC.out, HB2.out⟩
        case measure => simp [intOf]; omega
    · go_wp2_with fail
      refine (rend_any wr sa (HE.out.below HB.out) _ _ q at_ c bs HR.out).mono ?_
      rintro r w2 ⟨rfl, hR2, hg2⟩
      have HB2 := Hid.in (wrote HB.out hg2 (Nat.le_refl _) HQ.out)
      clear hR2 hg2
      go_wp2
      go_ret
      refine ⟨_, _, rfl, ?_, HB2.out⟩
      have hjl : zs.take j = zs := List.take_of_length_le (by omega)
      constructor
      · intro h
        by_cases hc : c = 0
        · have h1 := HC.out hc
          rw [hjl] at h1
          have := HK.out
          omega
        · unfold endS at h
          rw [if_pos hc] at h
          exact absurd h hc
      · intro h
        have hc := HKC.out h
        have h1 := HC.out hc
        rw [hjl] at h1
        unfold endS
        rw [if_neg (by simpa using hc), if_neg (by rw [HLN.out]; omega)]

end Go.Proofs.YtkjenbilfjlfdaaDoor

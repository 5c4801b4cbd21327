/- DERIVED of the program: (for a slice that may be empty, wherever it points) the document's own reader (assentref1.Reader) in memory: fail, Num, In, End. Own work. -/
import Derived.Test.YtgepfbaojogccaaDoorPkJ
namespace Go.Proofs.YtgepfbaojogccaaDoor
open Go.RowKit Go.Extern.Stop Go.Stop Go.Extern

/-- Its Place. -/
def plc (c at_ : Nat) : Nat := if c = 0 then 0 else at_

theorem Lie.kept2 {w w' : World} {ao : Option Addr} {cap : Nat} {bs : List Nat} {row : Option Nat} (h : Lie w ao cap bs) (hg : w.grownBy w' row) (ha : bs = [] ∨ oblk ao = none ∨ oblk ao ≠ row) : Lie w' ao cap bs := by
  rcases ha with rfl | ha
  · exact ⟨h.1, h.2.1, fun k hk => absurd hk (Nat.not_lt_zero _)⟩
  · exact h.kept hg ha

structure Qd (w : World) (q : Nat) (ao : Option Addr) (cap : Nat) (bs : List Nat) (at_ c : Nat) : Prop where
  blk : w.heap[q]? = some (.cells #[.slice ao bs.length cap, .int .i64 at_, .int .i64 c, .int .i64 (plc c at_)] 65 (0, 0))
  lie : Lie w ao cap bs
  away : bs = [] ∨ oblk ao ≠ some q
  le : at_ ≤ bs.length
  byte : ∀ x ∈ bs, x < 256
  len : bs.length ≤ 140737488355328

theorem Qd.lt {w : World} {q : Nat} {ao : Option Addr} {cap : Nat} {bs : List Nat} {at_ c : Nat} (h : Qd w q ao cap bs at_ c) : q < w.heap.size := blk_lt h.blk

theorem Qd.kept {w w' : World} {q : Nat} {ao : Option Addr} {cap : Nat} {bs : List Nat} {at_ c : Nat} {row : Option Nat} (h : Qd w q ao cap bs at_ c) (hg : w.grownBy w' row) (hr : row ≠ some q) (ha : bs = [] ∨ oblk ao = none ∨ oblk ao ≠ row) : Qd w' q ao cap bs at_ c :=
  ⟨(hg.block q h.lt (fun e => hr e.symm)).trans h.blk, h.lie.kept2 hg ha, h.away, h.le, h.byte, h.len⟩

theorem Qd.step {w w' : World} {q : Nat} {ao : Option Addr} {cap : Nat} {bs : List Nat} {at_ c : Nat} (h : Qd w q ao cap bs at_ c) (hb : Below w.heap.size w w') : Qd w' q ao cap bs at_ c :=
  h.kept (grown_of_below hb none) (by simp) (.inr (by cases ao <;> simp [oblk]))

theorem qfail_any (w : World) (q : Nat) (ao : Option Addr) (cap : Nat) (bs : List Nat) (at_ : Nat) (hQ : Qd w q ao cap bs at_ 0) (c : Nat) (hc : c ≠ 0) :
    Calls Tryd.prog 51 #[.pointer (some ⟨q, 0, none⟩), .int .i64 c] w fun r w' => r = .returned (.tuple #[]) ∧ Qd w' q ao cap bs at_ c ∧ w.grownBy w' (some q) := by
  have k1 : w.cell? ⟨q, 1, none⟩ = some (.int .i64 at_) := blk_cell hQ.blk rfl
  have k2 : w.cell? ⟨q, 2, none⟩ = some (.int .i64 0) := blk_cell hQ.blk rfl
  have k3 : w.cell? ⟨q, 3, none⟩ = some (.int .i64 0) := blk_cell hQ.blk rfl
  have f2 : w.frozen? ⟨q, 2, none⟩ = false := blk_free hQ.blk
  have f3 : w.frozen? ⟨q, 3, none⟩ = false := blk_free hQ.blk
  have HQ := Hid.in hQ
  have HC := Hid.in hc
  clear hQ hc
  go_enter Tryd.func51, Tryd.ntmps51
  go_wp2
  go_end0
  have HG : Hid (w.grownBy ((w.setCell ⟨q, 2, none⟩ (.int .i64 c)).setCell ⟨q, 3, none⟩ (.int .i64 at_)) (some q)) := Hid.in (grown_trans (grown_set _ _ _ _) (grown_set _ _ _ _))
  refine ⟨rfl, ⟨?_, HQ.out.lie.kept2 HG.out (HQ.out.away.imp id .inr), HQ.out.away, HQ.out.le, HQ.out.byte, HQ.out.len⟩, HG.out⟩
  have h := blk_set (i := 3) (.int .i64 (at_ : Int)) (blk_set (i := 2) (.int .i64 (c : Int)) HQ.out.blk)
  have hp : plc c at_ = at_ := by unfold plc; rw [if_neg HC.out]
  rw [hp]
  exact h

theorem u8_and127 {c : Nat} (h : c < 256) : bits .and .u8 (c : Int) 127 = (c : Int) % 128 := bits_mask .u8 8 (by decide) wraps_u8 7 (by decide) _ (by omega) (by omega)

theorem uz_odd {V : Nat} (h : V % 2 = 1) : uz V = -1 - ((V / 2 : Nat) : Int) := by unfold uz; rw [if_pos h]
theorem uz_evn {V : Nat} (h : ¬ V % 2 = 1) : uz V = ((V / 2 : Nat) : Int) := by unfold uz; rw [if_neg h]

/-- The place moved on. -/
theorem qset {wr W : World} {q : Nat} {ao : Option Addr} {cap : Nat} {bs : List Nat} {at_ n : Nat} (h : Qd wr q ao cap bs at_ 0) (hb : Below wr.heap.size wr W) (hn : n ≤ bs.length) (v : Value) (hv : v = .int .i64 (n : Int)) : Qd (W.setCell ⟨q, 1, none⟩ v) q ao cap bs n 0 := by
  subst hv
  have h1 := h.step hb
  exact ⟨blk_set (i := 1) _ h1.blk, h1.lie.kept2 (grown_set _ _ _ _) (h1.away.imp id .inr), h1.away, hn, h1.byte, h1.len⟩

set_option maxHeartbeats 3200000 in
set_option maxRecDepth 20000 in
theorem qnum_zero (w : World) (q : Nat) (ao : Option Addr) (cap : Nat) (bs : List Nat) (at_ : Nat) (hQ : Qd w q ao cap bs at_ 0) :
    Calls Tryd.prog 50 #[.pointer (some ⟨q, 0, none⟩)] w fun r w' => r = .returned (.int .i64 (numS bs at_ 0).2.1) ∧ Qd w' q ao cap bs (numS bs at_ 0).2.2 (numS bs at_ 0).1 ∧ w.grownBy w' (some q) := by
  have HQ := Hid.in hQ
  have HLE := Hid.in hQ.le
  have hln := hQ.len
  have k2 : w.cell? ⟨q, 2, none⟩ = some (.int .i64 0) := blk_cell hQ.blk rfl
  clear hQ
  go_enter Tryd.func50, Tryd.ntmps50
  go_wp2
  go_loopw [3, 4] (fun u i wr => ∃ k U : Nat, k ≤ 9 ∧ at_ + k ≤ bs.length ∧ i = .int .i64 k ∧ u = .int .u64 U ∧ U < 2 ^ (7 * k) ∧ dec 0 0 (bs.drop at_) = dec k U (bs.drop (at_ + k)) ∧ Below w.heap.size w wr) (fun _ i _ => 10 - (intOf i).toNat)
  case atStart => exact ⟨0, 0, by omega, HLE.out, rfl, rfl, by decide, rfl, Below.refl _ _⟩
  case round =>
    obtain ⟨k, U, hk9, hkl, rfl, rfl, hU, hd, hb⟩ := hrel
    have HD := Hid.in hd
    have HU := Hid.in hU
    have HB := Hid.in hb
    clear hd hU hb k2
    have HQr := Hid.in (HQ.out.step HB.out)
    have k0 : wr.cell? ⟨q, 0, none⟩ = some (.slice ao bs.length cap) := blk_cell HQr.out.blk rfl
    have k1 : wr.cell? ⟨q, 1, none⟩ = some (.int .i64 at_) := blk_cell HQr.out.blk rfl
    have f1 : wr.frozen? ⟨q, 1, none⟩ = false := blk_free HQr.out.blk
    by_cases hlt : at_ + k < bs.length
    · obtain ⟨b, o, rfl, hcell⟩ := HQr.out.lie.2.2 (at_ + k) hlt
      have hc8 := HQr.out.byte _ (List.getElem_mem hlt)
      generalize hcc : bs[at_ + k] = c at hcell hc8
      have HDC := Hid.in (HD.out.trans (congrArg (dec k U) (drop_cons hlt hcc)))
      clear hcc
      have hand := u8_and127 hc8
      by_cases hform : (0 < k ∧ c = 0) ∨ (k = 9 ∧ 1 < c)
      · have HF : Hid (dec 0 0 (bs.drop at_) = (4, 0, 0)) := Hid.in (HDC.out.trans (dec_form hform))
        clear HDC
        by_cases h9 : k < 9
        · have h1 : 0 < k := by omega
          have h3 : c < 1 := by omega
          clear hform
          go_upto_region 6 with fail
          go_quiet (fail)
          go_upto_region 9 with fail
          go_quiet (fail)
          go_wp2_with fail
          refine (qfail_any _ q _ cap bs at_ (HQr.out.step (by first | exact drewN_below (Below.refl _ _) _ | exact drewN_below (drewN_below (Below.refl _ _) _) _)) 4 (by decide)).mono ?_
          rintro r w2 ⟨rfl, hQ2, hg2⟩
          have HQ2 := Hid.in hQ2
          have HG2 := Hid.in hg2
          clear hQ2 hg2
          go_wp2
          go_ret
          rw [numS_bad HF.out (by decide)]
          exact ⟨rfl, HQ2.out, grown_trans (grown_of_below (by first | exact drewN_below HB.out _ | exact drewN_below (drewN_below HB.out _) _) _) HG2.out⟩
        · have hq : ((k : Int) == 9) = true := by simp; omega
          have h1 : 0 < k := by omega
          by_cases h3 : 1 < c
          · clear hform
            go_upto_region 6 with fail
            go_quiet (fail)
            go_upto_region 9 with fail
            go_quiet (fail)
            go_wp2_with fail
            refine (qfail_any _ q _ cap bs at_ (HQr.out.step (by first | exact drewN_below (Below.refl _ _) _ | exact drewN_below (drewN_below (Below.refl _ _) _) _)) 4 (by decide)).mono ?_
            rintro r w2 ⟨rfl, hQ2, hg2⟩
            have HQ2 := Hid.in hQ2
            have HG2 := Hid.in hg2
            clear hQ2 hg2
            go_wp2
            go_ret
            rw [numS_bad HF.out (by decide)]
            exact ⟨rfl, HQ2.out, grown_trans (grown_of_below (by first | exact drewN_below HB.out _ | exact drewN_below (drewN_below HB.out _) _) _) HG2.out⟩
          · have h4 : c < 1 := by omega
            have hq0 : ((c : Int) == 0) = true := by simp; omega
            have hq1 : ¬ (1 : Int) < (c : Int) := by omega
            clear hform
            go_upto_region 6 with fail
            go_quiet (fail)
            go_upto_region 9 with fail
            go_quiet (fail)
            go_wp2_with fail
            refine (qfail_any _ q _ cap bs at_ (HQr.out.step (by first | exact drewN_below (Below.refl _ _) _ | exact drewN_below (drewN_below (Below.refl _ _) _) _)) 4 (by decide)).mono ?_
            rintro r w2 ⟨rfl, hQ2, hg2⟩
            have HQ2 := Hid.in hQ2
            have HG2 := Hid.in hg2
            clear hQ2 hg2
            go_wp2
            go_ret
            rw [numS_bad HF.out (by decide)]
            exact ⟨rfl, HQ2.out, grown_trans (grown_of_below (by first | exact drewN_below HB.out _ | exact drewN_below (drewN_below HB.out _) _) _) HG2.out⟩
      · obtain ⟨V, hV⟩ : ∃ V : Nat, V = U + c % 128 * 2 ^ (7 * k) := ⟨_, rfl⟩
        obtain ⟨hor, hv1, hv2⟩ := wrap_join U c k hk9 HU.out (fun h => by omega)
        rw [← hV] at hor hv1 hv2
        have HV2 := Hid.in hv2
        clear hv2
        have hff : (0 < k → 1 ≤ c) ∧ (k = 9 → c ≤ 1) := ⟨fun h => by omega, fun h => by omega⟩
        by_cases hc1 : c < 128
        · have HF : Hid (dec 0 0 (bs.drop at_) = (0, V, k + 1)) := Hid.in (HDC.out.trans ((dec_last hform hc1).trans (by rw [hV, Nat.mod_eq_of_lt hc1])))
          clear HDC hV hform
          have hand1 := u64_and1 V hv1
          by_cases hodd : V % 2 = 1
          · have HUZ := Hid.in (uz_odd hodd)
            have hq2 : ((V : Int) % 2 == 1) = true := by simp; omega
            have hfl := flip_i64 ((V : Int) / 2) (by omega) (by omega)
            clear hodd
            by_cases hk0 : 0 < k
            · have hc0 := hff.1 hk0
              by_cases hk9' : k < 9
              · clear hff
                go_upto_region 6 with fail
                go_quiet (fail)
                go_upto_region 9 with fail
                go_quiet (fail)
                go_wp2
                go_ret
                have HG : ∀ W v, Below w.heap.size w W → w.grownBy (W.setCell ⟨q, 1, none⟩ v) (some q) := fun W v h => grown_trans (grown_of_below h _) (grown_set _ _ _ _)
                rw [numS_ok HF.out hv1]
                refine ⟨ret_int (by rw [HUZ.out]; go_num), ?_, HG _ _ (by first | exact drewN_below HB.out _ | exact drewN_below (drewN_below HB.out _) _)⟩
                show Qd _ q _ cap bs (at_ + (k + 1)) 0
                exact qset HQr.out (by first | exact drewN_below (Below.refl _ _) _ | exact drewN_below (drewN_below (Below.refl _ _) _) _) (by omega) _ (by go_num)
              · have hc9 := hff.2 (by omega)
                clear hff
                have hq : ((k : Int) == 9) = true := by simp; omega
                have hq0 : ((c : Int) == 0) = false := by simp; omega
                have hq1 : ¬ (1 : Int) < (c : Int) := by omega
                go_upto_region 6 with fail
                go_quiet (fail)
                go_upto_region 9 with fail
                go_quiet (fail)
                go_wp2
                go_ret
                have HG : ∀ W v, Below w.heap.size w W → w.grownBy (W.setCell ⟨q, 1, none⟩ v) (some q) := fun W v h => grown_trans (grown_of_below h _) (grown_set _ _ _ _)
                rw [numS_ok HF.out hv1]
                refine ⟨ret_int (by rw [HUZ.out]; go_num), ?_, HG _ _ (by first | exact drewN_below HB.out _ | exact drewN_below (drewN_below HB.out _) _)⟩
                show Qd _ q _ cap bs (at_ + (k + 1)) 0
                exact qset HQr.out (by first | exact drewN_below (Below.refl _ _) _ | exact drewN_below (drewN_below (Below.refl _ _) _) _) (by omega) _ (by go_num)
            · clear hff
              go_upto_region 6 with fail
              go_quiet (fail)
              go_upto_region 9 with fail
              go_quiet (fail)
              go_wp2
              go_ret
              have HG : ∀ W v, Below w.heap.size w W → w.grownBy (W.setCell ⟨q, 1, none⟩ v) (some q) := fun W v h => grown_trans (grown_of_below h _) (grown_set _ _ _ _)
              rw [numS_ok HF.out hv1]
              refine ⟨ret_int (by rw [HUZ.out]; go_num), ?_, HG _ _ (by first | exact drewN_below HB.out _ | exact drewN_below (drewN_below HB.out _) _)⟩
              show Qd _ q _ cap bs (at_ + (k + 1)) 0
              exact qset HQr.out (by first | exact drewN_below (Below.refl _ _) _ | exact drewN_below (drewN_below (Below.refl _ _) _) _) (by omega) _ (by go_num)
          · have HUZ := Hid.in (uz_evn hodd)
            have hq2 : ((V : Int) % 2 == 1) = false := by simp; omega
            clear hodd
            by_cases hk0 : 0 < k
            · have hc0 := hff.1 hk0
              by_cases hk9' : k < 9
              · clear hff
                go_upto_region 6 with fail
                go_quiet (fail)
                go_upto_region 9 with fail
                go_quiet (fail)
                go_wp2
                go_ret
                have HG : ∀ W v, Below w.heap.size w W → w.grownBy (W.setCell ⟨q, 1, none⟩ v) (some q) := fun W v h => grown_trans (grown_of_below h _) (grown_set _ _ _ _)
                rw [numS_ok HF.out hv1]
                refine ⟨ret_int (by rw [HUZ.out]; go_num), ?_, HG _ _ (by first | exact drewN_below HB.out _ | exact drewN_below (drewN_below HB.out _) _)⟩
                show Qd _ q _ cap bs (at_ + (k + 1)) 0
                exact qset HQr.out (by first | exact drewN_below (Below.refl _ _) _ | exact drewN_below (drewN_below (Below.refl _ _) _) _) (by omega) _ (by go_num)
              · have hc9 := hff.2 (by omega)
                clear hff
                have hq : ((k : Int) == 9) = true := by simp; omega
                have hq0 : ((c : Int) == 0) = false := by simp; omega
                have hq1 : ¬ (1 : Int) < (c : Int) := by omega
                go_upto_region 6 with fail
                go_quiet (fail)
                go_upto_region 9 with fail
                go_quiet (fail)
                go_wp2
                go_ret
                have HG : ∀ W v, Below w.heap.size w W → w.grownBy (W.setCell ⟨q, 1, none⟩ v) (some q) := fun W v h => grown_trans (grown_of_below h _) (grown_set _ _ _ _)
                rw [numS_ok HF.out hv1]
                refine ⟨ret_int (by rw [HUZ.out]; go_num), ?_, HG _ _ (by first | exact drewN_below HB.out _ | exact drewN_below (drewN_below HB.out _) _)⟩
                show Qd _ q _ cap bs (at_ + (k + 1)) 0
                exact qset HQr.out (by first | exact drewN_below (Below.refl _ _) _ | exact drewN_below (drewN_below (Below.refl _ _) _) _) (by omega) _ (by go_num)
            · clear hff
              go_upto_region 6 with fail
              go_quiet (fail)
              go_upto_region 9 with fail
              go_quiet (fail)
              go_wp2
              go_ret
              have HG : ∀ W v, Below w.heap.size w W → w.grownBy (W.setCell ⟨q, 1, none⟩ v) (some q) := fun W v h => grown_trans (grown_of_below h _) (grown_set _ _ _ _)
              rw [numS_ok HF.out hv1]
              refine ⟨ret_int (by rw [HUZ.out]; go_num), ?_, HG _ _ (by first | exact drewN_below HB.out _ | exact drewN_below (drewN_below HB.out _) _)⟩
              show Qd _ q _ cap bs (at_ + (k + 1)) 0
              exact qset HQr.out (by first | exact drewN_below (Below.refl _ _) _ | exact drewN_below (drewN_below (Below.refl _ _) _) _) (by omega) _ (by go_num)
        · have HF : Hid (dec 0 0 (bs.drop at_) = dec (k + 1) V (bs.drop (at_ + (k + 1)))) := Hid.in (HDC.out.trans ((dec_more hform hc1).trans (by rw [hV, Nat.add_assoc])))
          have hk8 : k ≤ 8 := by omega
          clear HDC hV hform
          by_cases hk0 : 0 < k
          · have hc0 := hff.1 hk0
            clear hff
            go_upto_region 6 with fail
            go_quiet (fail)
            go_upto_region 9 with fail
            go_quiet (fail)
            go_wp2
            go_roundw
            case rel => exact ⟨k + 1, V, by omega, by omega, by go_num, rfl, HV2.out, HF.out, by first | exact drewN_below HB.out _ | exact drewN_below (drewN_below HB.out _) _⟩
            case measure => simp [intOf]; omega
          · clear hff
            go_upto_region 6 with fail
            go_quiet (fail)
            go_upto_region 9 with fail
            go_quiet (fail)
            go_wp2
            go_roundw
            case rel => exact ⟨k + 1, V, by omega, by omega, by go_num, rfl, HV2.out, HF.out, by first | exact drewN_below HB.out _ | exact drewN_below (drewN_below HB.out _) _⟩
            case measure => simp [intOf]; omega
    · have HF : Hid (dec 0 0 (bs.drop at_) = (3, 0, 0)) := Hid.in (HD.out.trans (by rw [List.drop_eq_nil_of_le (by omega)]; rfl))
      go_upto_region 6 with fail
      go_quiet (fail)
      go_wp2_with fail
      refine (qfail_any _ q _ cap bs at_ (HQr.out.step (by first | exact drewN_below (Below.refl _ _) _ | exact drewN_below (drewN_below (Below.refl _ _) _) _)) 3 (by decide)).mono ?_
      rintro r w2 ⟨rfl, hQ2, hg2⟩
      have HQ2 := Hid.in hQ2
      have HG2 := Hid.in hg2
      clear hQ2 hg2
      go_wp2
      go_ret
      rw [numS_bad HF.out (by decide)]
      exact ⟨rfl, HQ2.out, grown_trans (grown_of_below (by first | exact drewN_below HB.out _ | exact drewN_below (drewN_below HB.out _) _) _) HG2.out⟩

end Go.Proofs.YtgepfbaojogccaaDoor

namespace Go.Proofs.YtgepfbaojogccaaDoor
open Go.RowKit Go.Extern.Stop Go.Stop Go.Extern

theorem qnum_any (w : World) (q : Nat) (ao : Option Addr) (cap : Nat) (bs : List Nat) (at_ c : Nat) (hQ : Qd w q ao cap bs at_ c) :
    Calls Tryd.prog 50 #[.pointer (some ⟨q, 0, none⟩)] w fun r w' => r = .returned (.int .i64 (numS bs at_ c).2.1) ∧ Qd w' q ao cap bs (numS bs at_ c).2.2 (numS bs at_ c).1 ∧ w.grownBy w' (some q) := by
  by_cases hc : c = 0
  · subst hc
    exact qnum_zero w q ao cap bs at_ hQ
  · rw [numS_wrong hc]
    have k2 : w.cell? ⟨q, 2, none⟩ = some (.int .i64 c) := blk_cell hQ.blk rfl
    have hcb : ((c : Int) != 0) = true := by simp; omega
    have HQ := Hid.in hQ
    clear hQ hc
    go_enter Tryd.func50, Tryd.ntmps50
    go_wp2
    go_ret
    exact ⟨rfl, HQ.out, World.grownBy.refl _ _⟩

set_option maxHeartbeats 1600000 in
set_option maxRecDepth 20000 in
theorem qin_any (w : World) (q : Nat) (ao : Option Addr) (cap : Nat) (bs : List Nat) (at_ c : Nat) (hQ : Qd w q ao cap bs at_ c) (lo hi : Int) :
    Calls Tryd.prog 35 #[.pointer (some ⟨q, 0, none⟩), .int .i64 lo, .int .i64 hi] w fun r w' => r = .returned (.int .i64 (inS bs lo hi at_ c).2.1) ∧ Qd w' q ao cap bs (inS bs lo hi at_ c).2.2 (inS bs lo hi at_ c).1 ∧ w.grownBy w' (some q) := by
  have k1 : w.cell? ⟨q, 1, none⟩ = some (.int .i64 at_) := blk_cell hQ.blk rfl
  have HQ := Hid.in hQ
  have HLE := Hid.in hQ.le
  have HBY := Hid.in hQ.byte
  clear hQ
  go_enter Tryd.func35, Tryd.ntmps35
  go_wp2_with fail
  refine (qnum_any w q ao cap bs at_ c HQ.out).mono ?_
  by_cases hc : c = 0
  · subst hc
    obtain ⟨d, u, s, hd⟩ : ∃ d u s, dec 0 0 (bs.drop at_) = (d, u, s) := ⟨_, _, _, rfl⟩
    by_cases hd0 : d = 0
    · subst hd0
      obtain ⟨v, e1, e2, e3, e4, e5, e6⟩ := dec_ok _ 0 0 u s (by omega) (fun x hx => HBY.out x (List.mem_of_mem_drop hx)) hd
      simp only [Nat.mul_zero, Nat.pow_zero, Nat.mul_one, Nat.zero_add, Nat.sub_zero] at e1 e5
      subst e1
      have hu : u < 18446744073709551616 := by simpa using e5
      rw [numS_ok hd hu]
      rintro r w1 ⟨rfl, hQ1, hg1⟩
      have HQ1 := Hid.in hQ1
      have HG1 := Hid.in hg1
      have c1 : w1.cell? ⟨q, 1, none⟩ = some (.int .i64 (at_ + s : Nat)) := blk_cell hQ1.blk rfl
      have c2 : w1.cell? ⟨q, 2, none⟩ = some (.int .i64 0) := blk_cell hQ1.blk rfl
      have f1 : w1.frozen? ⟨q, 1, none⟩ = false := blk_free hQ1.blk
      clear hQ1 hg1 k1 e2 e3 e4 e5 e6
      have HD := Hid.in hd
      clear hd
      have out : ∀ (w2 : World), Qd w2 q ao cap bs at_ 0 → Calls Tryd.prog 51 #[.pointer (some ⟨q, 0, none⟩), .int .i64 4] w2 fun r w' => r = .returned (.tuple #[]) ∧ Qd w' q ao cap bs at_ 4 ∧ w2.grownBy w' (some q) := fun w2 h => qfail_any w2 q ao cap bs at_ h 4 (by decide)
      have HOUT := Hid.in out
      clear out
      by_cases h1 : uz u < lo
      · go_wp2_with fail
        have HQ2 : Hid (Qd (w1.setCell ⟨q, 1, none⟩ (.int .i64 at_)) q ao cap bs at_ 0) := Hid.in (qset HQ1.out (Below.refl _ _) HLE.out _ rfl)
        refine (HOUT.out _ HQ2.out).mono ?_
        rintro r w3 ⟨rfl, hQ3, hg3⟩
        have c3 : w3.cell? ⟨q, 2, none⟩ = some (.int .i64 4) := blk_cell hQ3.blk rfl
        have HQ3 := Hid.in hQ3
        have HG3 : Hid (w.grownBy w3 (some q)) := Hid.in (grown_trans (grown_trans HG1.out (grown_set _ _ _ _)) hg3)
        clear hQ3 hg3
        go_wp2
        go_ret
        rw [inS_out HD.out (.inl h1)]
        exact ⟨rfl, HQ3.out, HG3.out⟩
      · by_cases h2 : hi < uz u
        · go_wp2_with fail
          have HQ2 : Hid (Qd (w1.setCell ⟨q, 1, none⟩ (.int .i64 at_)) q ao cap bs at_ 0) := Hid.in (qset HQ1.out (Below.refl _ _) HLE.out _ rfl)
          refine (HOUT.out _ HQ2.out).mono ?_
          rintro r w3 ⟨rfl, hQ3, hg3⟩
          have c3 : w3.cell? ⟨q, 2, none⟩ = some (.int .i64 4) := blk_cell hQ3.blk rfl
          have HQ3 := Hid.in hQ3
          have HG3 : Hid (w.grownBy w3 (some q)) := Hid.in (grown_trans (grown_trans HG1.out (grown_set _ _ _ _)) hg3)
          clear hQ3 hg3
          go_wp2
          go_ret
          rw [inS_out HD.out (.inr h2)]
          exact ⟨rfl, HQ3.out, HG3.out⟩
        · go_wp2
          go_ret
          rw [inS_ok HD.out (by omega)]
          exact ⟨rfl, HQ1.out, HG1.out⟩
    · rw [numS_bad hd hd0]
      have HI := Hid.in (inS_bad (lo := lo) (hi := hi) hd hd0)
      rintro r w1 ⟨rfl, hQ1, hg1⟩
      have c2 : w1.cell? ⟨q, 2, none⟩ = some (.int .i64 d) := blk_cell hQ1.blk rfl
      have HQ1 := Hid.in hQ1
      have HG1 := Hid.in hg1
      have hb1 : ((d : Int) == 0) = false := by simp; omega
      have hb2 : ((d : Int) != 0) = true := by simp; omega
      clear hQ1 hg1 k1 hd hd0
      go_wp2
      go_ret
      rw [HI.out]
      exact ⟨rfl, HQ1.out, HG1.out⟩
  · rw [numS_wrong hc]
    have HI := Hid.in (inS_wrong (bs := bs) (lo := lo) (hi := hi) (at_ := at_) hc)
    rintro r w1 ⟨rfl, hQ1, hg1⟩
    have c2 : w1.cell? ⟨q, 2, none⟩ = some (.int .i64 c) := blk_cell hQ1.blk rfl
    have HQ1 := Hid.in hQ1
    have HG1 := Hid.in hg1
    have hb1 : ((c : Int) == 0) = false := by simp; omega
    have hb2 : ((c : Int) != 0) = true := by simp; omega
    clear hQ1 hg1 k1 hc
    go_wp2
    go_ret
    rw [HI.out]
    exact ⟨rfl, HQ1.out, HG1.out⟩

theorem qend_any (w : World) (q : Nat) (ao : Option Addr) (cap : Nat) (bs : List Nat) (at_ c : Nat) (hQ : Qd w q ao cap bs at_ c) :
    Calls Tryd.prog 36 #[.pointer (some ⟨q, 0, none⟩)] w fun r w' => r = .returned (.int .i64 (endS bs at_ c)) ∧ Qd w' q ao cap bs at_ (endS bs at_ c) ∧ w.grownBy w' (some q) := by
  have k0 : w.cell? ⟨q, 0, none⟩ = some (.slice ao bs.length cap) := blk_cell hQ.blk rfl
  have k1 : w.cell? ⟨q, 1, none⟩ = some (.int .i64 at_) := blk_cell hQ.blk rfl
  have k2 : w.cell? ⟨q, 2, none⟩ = some (.int .i64 c) := blk_cell hQ.blk rfl
  have HQ := Hid.in hQ
  clear hQ
  by_cases hc : c = 0
  · subst hc
    by_cases hlt : at_ < bs.length
    · have HS : Hid (endS bs at_ 0 = 5) := Hid.in (by unfold endS; rw [if_neg (by simp), if_pos hlt])
      go_enter Tryd.func36, Tryd.ntmps36
      go_upto_region 1 with fail
      go_quiet (fail)
      go_wp2_with fail
      refine (qfail_any _ q ao cap bs at_ (HQ.out.step (drewN_below (Below.refl _ _) _)) 5 (by decide)).mono ?_
      rintro r w2 ⟨rfl, hQ2, hg2⟩
      have k2' : w2.cell? ⟨q, 2, none⟩ = some (.int .i64 5) := blk_cell hQ2.blk rfl
      have HQ2 := Hid.in hQ2
      have HG2 := Hid.in hg2
      clear hQ2 hg2
      go_wp2
      go_ret
      rw [HS.out]
      exact ⟨rfl, HQ2.out, grown_trans (grown_of_below (drewN_below (Below.refl _ _) _) _) HG2.out⟩
    · have HS : Hid (endS bs at_ 0 = 0) := Hid.in (by unfold endS; rw [if_neg (by simp), if_neg hlt])
      go_enter Tryd.func36, Tryd.ntmps36
      go_upto_region 1 with fail
      go_quiet (fail)
      go_wp2
      go_ret
      rw [HS.out]
      exact ⟨rfl, HQ.out.step (drewN_below (Below.refl _ _) _), grown_of_below (drewN_below (Below.refl _ _) _) _⟩
  · have HS : Hid (endS bs at_ c = c) := Hid.in (by unfold endS; rw [if_pos hc])
    have hb1 : ((c : Int) == 0) = false := by simp; omega
    clear hc
    go_enter Tryd.func36, Tryd.ntmps36
    go_upto_region 1 with fail
    go_quiet (fail)
    go_wp2
    go_ret
    rw [HS.out]
    exact ⟨rfl, HQ.out.step (drewN_below (Below.refl _ _) _), grown_of_below (drewN_below (Below.refl _ _) _) _⟩

theorem kIs_nil (op : ByteArray) (n : Int) (w : World) : Calls Tryd.prog 12 #[.nilIface, .int .i64 0, .string op, .int .i64 n] w fun r w' => r = .returned (.bool true) ∧ Below w.heap.size w w' := by
  go_enter Tryd.func12, Tryd.ntmps12
  go_wp2
  go_ret
  exact ⟨rfl, Below.refl _ _⟩

theorem kOnly_nil (w : World) (sa : Nat → Addr) (hE : Env10 w sa) : Calls Tryd.prog 21 #[.nilIface, .int .i64 0] w fun r w' => r = .returned (.bool true) ∧ Below w.heap.size w w' := by
  have HE := Hid.in hE
  clear hE
  go_enter Tryd.func21, Tryd.ntmps21
  go_wp2
  go_loopw [5] (fun i wr => ∃ k : Nat, 1 ≤ k ∧ k ≤ 11 ∧ i = .int .i64 k ∧ Below w.heap.size w wr) (fun i _ => 11 - (intOf i).toNat)
  case atStart => exact ⟨1, Nat.le_refl _, by omega, rfl, Below.refl _ _⟩
  case round =>
    obtain ⟨k, hk1, hk, rfl, hb⟩ := hrel
    have HB := Hid.in hb
    clear hb
    by_cases hlt : k ≤ 10
    · have hq : ((k : Int) == 0) = false := by simp; omega
      go_wp2_with fail
      refine (error_code _ sa (HE.out.below HB.out) k hk1 hlt).mono ?_
      rintro r w' ⟨rfl, rfl⟩
      go_wp2_with fail
      refine (Is_nil (sa k) _).mono ?_
      rintro r w' ⟨rfl, rfl⟩
      go_wp2
      go_roundw
      case rel => exact ⟨k + 1, by omega, by omega, by go_num, HB.out⟩
      case measure => simp [intOf]; omega
    · go_wp2
      go_ret
      exact ⟨rfl, HB.out⟩

/-- What a reader's error says of itself. -/
theorem kIs_rerr (w : World) (sa : Nat → Addr) (hE : Env10 w sa) (c at_ : Nat) (hc : c = 0 ∨ 3 ≤ c ∧ c ≤ 5) :
    Calls Tryd.prog 12 #[rerr sa c at_, .int .i64 c, .string opP, .int .i64 (plc c at_)] w fun r w' => r = .returned (.bool true) ∧ Below w.heap.size w w' := by
  by_cases h : c = 0
  · subst h
    exact kIs_nil opP _ w
  · rw [rerr_yes sa c at_ h, show plc c at_ = at_ by unfold plc; rw [if_neg h]]
    exact kIs_flt opP at_ [] c (by omega) (by omega) w sa hE

theorem kOnly_rerr (w : World) (sa : Nat → Addr) (hE : Env10 w sa) (c at_ : Nat) (hc : c = 0 ∨ 3 ≤ c ∧ c ≤ 5) :
    Calls Tryd.prog 21 #[rerr sa c at_, .int .i64 c] w fun r w' => r = .returned (.bool true) ∧ Below w.heap.size w w' := by
  by_cases h : c = 0
  · subst h
    exact kOnly_nil w sa hE
  · rw [rerr_yes sa c at_ h]
    exact kOnly_chn [(opP, (at_ : Int))] c (by omega) (by omega) w sa hE

end Go.Proofs.YtgepfbaojogccaaDoor

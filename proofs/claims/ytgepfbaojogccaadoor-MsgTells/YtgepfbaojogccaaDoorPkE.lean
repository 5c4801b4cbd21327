/- DERIVED of the program: (*Reader).Num, End, Wrong, At; assentbook.Same of bytes. Own work. -/
import Derived.Test.YtgepfbaojogccaaDoorPkD
namespace Go.Proofs.YtgepfbaojogccaaDoor
open Go.RowKit Go.Extern.Stop Go.Stop Go.Extern

/-- What Num answers. -/
abbrev numS (bs : List Nat) (at_ c : Nat) : Nat × Int × Nat := inS bs (-9223372036854775808) 9223372036854775807 at_ c

/-- What End leaves. -/
def endS (bs : List Nat) (at_ c : Nat) : Nat := if c ≠ 0 then c else if at_ < bs.length then 5 else 0

theorem rend_any (w : World) (sa : Nat → Addr) (hE : Env10 w sa) (ra rz q at_ c : Nat) (bs : List Nat) (hR : Rd w sa ra rz q bs at_ c) :
    Calls Tryd.prog 29 #[.pointer (some ⟨q, 0, none⟩)] w fun r w' => r = .returned (rerr sa (endS bs at_ c) at_) ∧ Rd w' sa ra rz q bs at_ (endS bs at_ c) ∧ w.grownBy w' (some q) := by
  obtain ⟨ao, cap, hq, hL, hne⟩ := hR.blk
  have k0 : w.cell? ⟨q, 0, none⟩ = some (.slice ao bs.length cap) := blk_cell hq rfl
  have k1 : w.cell? ⟨q, 1, none⟩ = some (.int .i64 at_) := blk_cell hq rfl
  have g5 := hE.g 5 (by omega) (by omega)
  simp only [gix] at g5
  by_cases hc : c = 0
  · subst hc
    have k2 : w.cell? ⟨q, 2, none⟩ = some .nilIface := blk_cell hq rfl
    have HR := Hid.in hR
    clear hR hq hL hne hE
    by_cases hlt : at_ < bs.length
    · have HS : Hid (endS bs at_ 0 = 5) := Hid.in (by unfold endS; rw [if_neg (by simp), if_pos hlt])
      go_enter Tryd.func29, Tryd.ntmps29
      go_upto_region 1 with fail
      go_quiet (fail)
      go_wp2_with fail
      refine (stop_any _ sa ra rz q at_ bs (HR.out.step (drewN_below (Below.refl _ _) _)) 5 (by omega) (by omega)).mono ?_
      rintro r w2 ⟨rfl, hR2, hg2⟩
      obtain ⟨ao2, cap2, hq2, _, _⟩ := hR2.blk
      have k2' : w2.cell? ⟨q, 2, none⟩ = some (rerr sa 5 at_) := blk_cell hq2 rfl
      have HR2 := Hid.in hR2
      have HG2 := Hid.in hg2
      clear hR2 hg2 hq2
      go_wp2
      go_ret
      rw [HS.out]
      exact ⟨rfl, HR2.out, grown_trans (grown_of_below (drewN_below (Below.refl _ _) _) _) HG2.out⟩
    · have HS : Hid (endS bs at_ 0 = 0) := Hid.in (by unfold endS; rw [if_neg (by simp), if_neg hlt])
      go_enter Tryd.func29, Tryd.ntmps29
      go_upto_region 1 with fail
      go_quiet (fail)
      go_wp2
      go_ret
      rw [HS.out]
      exact ⟨rfl, HR.out.step (drewN_below (Below.refl _ _) _), grown_of_below (drewN_below (Below.refl _ _) _) _⟩
  · have HV : Hid (rerr sa c at_ = flt opP at_ (snt (sa c))) := Hid.in (by unfold rerr; rw [if_neg hc])
    have k2 : w.cell? ⟨q, 2, none⟩ = some (flt opP at_ (snt (sa c))) := by
      rw [← HV.out]; exact blk_cell hq rfl
    have HS : Hid (endS bs at_ c = c) := Hid.in (by unfold endS; rw [if_pos hc])
    have HR := Hid.in hR
    clear hR hq hL hne hE
    go_enter Tryd.func29, Tryd.ntmps29
    go_upto_region 1 with fail
    go_quiet (fail)
    go_wp2
    go_ret
    rw [HS.out, HV.out]
    exact ⟨rfl, HR.out.step (drewN_below (Below.refl _ _) _), grown_of_below (drewN_below (Below.refl _ _) _) _⟩

set_option maxHeartbeats 1600000 in
set_option maxRecDepth 20000 in
theorem same_some (b1 o1 c1 b2 o2 c2 : Nat) (xs ys : List Nat) (w : World) (hn : xs.length = ys.length) (hlen : xs.length ≤ 281474976710656)
    (hx : ∀ (k : Nat) (h : k < xs.length), w.cell? ⟨b1, o1 + k, none⟩ = some (.int .u8 (xs[k] : Nat))) (hy : ∀ (k : Nat) (h : k < ys.length), w.cell? ⟨b2, o2 + k, none⟩ = some (.int .u8 (ys[k] : Nat))) :
    Calls Tryd.prog 11 #[.slice (some ⟨b1, o1, none⟩) xs.length c1, .slice (some ⟨b2, o2, none⟩) xs.length c2] w fun r w' => r = .returned (.bool (decide (xs = ys))) ∧ Below w.heap.size w w' := by
  have HX := Hid.in hx
  have HY := Hid.in hy
  have HN := Hid.in hn
  clear hx hy hn
  go_enter Tryd.func11, Tryd.ntmps11
  go_wp2
  go_loopw [5] (fun i wr => ∃ k : Nat, k ≤ xs.length ∧ i = .int .i64 k ∧ xs.take k = ys.take k ∧ Below w.heap.size w wr) (fun i _ => xs.length - (intOf i).toNat)
  case atStart => exact ⟨0, Nat.zero_le _, rfl, rfl, Below.refl _ _⟩
  case round =>
    obtain ⟨k, hk, rfl, ht, hb⟩ := hrel
    have HT := Hid.in ht
    have HB := Hid.in hb
    clear ht hb
    by_cases hlt : k < xs.length
    · have hlt2 : k < ys.length := by have := HN.out; omega
      have h1 : wr.cell? ⟨b1, o1 + k, none⟩ = some (.int .u8 (xs[k] : Nat)) := (HB.out.cell (p := ⟨b1, o1 + k, none⟩) (lt_cell (HX.out k hlt))).trans (HX.out k hlt)
      have h2 : wr.cell? ⟨b2, o2 + k, none⟩ = some (.int .u8 (ys[k] : Nat)) := (HB.out.cell (p := ⟨b2, o2 + k, none⟩) (lt_cell (HY.out k hlt2))).trans (HY.out k hlt2)
      generalize hxx : xs[k] = x at h1
      generalize hyy : ys[k] = y at h2
      have HXX := Hid.in hxx
      have HYY := Hid.in hyy
      clear hxx hyy
      by_cases he : x = y
      · subst he
        go_wp2
        go_quiet (fail)
        all_goals
          go_wp2
          go_roundw
          case rel => exact ⟨k + 1, by omega, by go_num, by rw [List.take_succ_eq_append_getElem hlt, List.take_succ_eq_append_getElem (by have := HN.out; omega), HT.out, HXX.out, HYY.out], drewN_below HB.out _⟩
          case measure => simp [intOf]; omega
      · have hq : ((x : Int) != (y : Int)) = true := by simp; omega
        have HD : Hid (decide (xs = ys) = false) := Hid.in (decide_eq_false (fun e => he (by subst e; exact HXX.out.symm.trans HYY.out)))
        clear he
        go_wp2
        go_quiet (fail)
        all_goals
          go_wp2
          go_ret
          exact ⟨by rw [HD.out]; rfl, drewN_below HB.out _⟩
    · have HD : Hid (decide (xs = ys) = true) := Hid.in (decide_eq_true (by have h := HT.out; rw [List.take_of_length_le (by omega), List.take_of_length_le (by have := HN.out; omega)] at h; exact h))
      go_wp2
      go_ret
      exact ⟨by rw [HD.out]; rfl, HB.out⟩

theorem same_none (a1 a2 : Option Addr) (c1 c2 : Nat) (w : World) :
    Calls Tryd.prog 11 #[.slice a1 0 c1, .slice a2 0 c2] w fun r w' => r = .returned (.bool true) ∧ Below w.heap.size w w' := by
  go_enter Tryd.func11, Tryd.ntmps11
  go_wp2
  refine wp_loop_rounds 1 ?_
  rw [rounds_succ]
  go_wp2
  go_ret
  exact ⟨rfl, Below.refl _ _⟩

theorem same_other (a1 a2 : Option Addr) (n1 n2 c1 c2 : Nat) (w : World) (hn : ((n1 : Int) != (n2 : Int)) = true) :
    Calls Tryd.prog 11 #[.slice a1 n1 c1, .slice a2 n2 c2] w fun r w' => r = .returned (.bool false) ∧ Below w.heap.size w w' := by
  go_enter Tryd.func11, Tryd.ntmps11
  go_wp2
  go_ret
  exact ⟨rfl, Below.refl _ _⟩

theorem same_any (a1 a2 : Option Addr) (n1 n2 c1 c2 : Nat) (xs ys : List Nat) (w : World) (h1 : n1 = xs.length) (h2 : n2 = ys.length) (hL1 : Lie w a1 c1 xs) (hL2 : Lie w a2 c2 ys) (hlen : xs.length ≤ 281474976710656) :
    Calls Tryd.prog 11 #[.slice a1 n1 c1, .slice a2 n2 c2] w fun r w' => r = .returned (.bool (decide (xs = ys))) ∧ Below w.heap.size w w' := by
  subst h1; subst h2
  by_cases hn : xs.length = ys.length
  · cases hx : xs with
    | nil =>
      obtain rfl : ys = [] := List.length_eq_zero_iff.1 (by rw [← hn, hx]; rfl)
      exact same_none a1 a2 c1 c2 w
    | cons x r =>
      rw [← hx, ← hn]
      have h0 : 0 < xs.length := by simp [hx]
      obtain ⟨b1, o1, rfl, _⟩ := hL1.2.2 0 h0
      obtain ⟨b2, o2, rfl, _⟩ := hL2.2.2 0 (by omega)
      refine same_some b1 o1 c1 b2 o2 c2 xs ys w hn hlen (fun k hk => ?_) (fun k hk => ?_)
      · obtain ⟨b', o', e, hc⟩ := hL1.2.2 k hk
        cases e
        exact hc
      · obtain ⟨b', o', e, hc⟩ := hL2.2.2 k hk
        cases e
        exact hc
  · rw [decide_eq_false (fun e => hn (by rw [e]))]
    exact same_other a1 a2 _ _ c1 c2 w (by simp; omega)

end Go.Proofs.YtgepfbaojogccaaDoor

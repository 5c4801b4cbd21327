/- DERIVED of the program: geom.Total; assentkeep.Is and Only where they answer yes; GeomRuns returns true. Own work. -/
import Derived.Test.YtgaajnefegjoeabDoorGeoB
namespace Go.Proofs.YtgaajnefegjoeabDoor
open Go.RowKit Go.Extern.Stop Go.Stop Go.Extern

theorem Zero3.var {W : World} {tb : Nat} (h : Zero3 W tb) : IsVar3 W tb := ⟨⟨_, h.c0⟩, ⟨_, h.c1⟩, ⟨_, h.c2⟩, h.f0, h.f1, h.f2⟩
theorem below_set3 {B : Nat} {w W : World} (h : Below B w W) (tb : Nat) (hB : B ≤ tb) (op : ByteArray) (n : Int) (e : Value) : Below B w (set3 W tb op n e) := by
  unfold set3
  exact ((h.setCell hB _).setCell hB _).setCell hB _

/-- assentkeep.Is of a Fault of that code, text and place. -/
theorem kIs_flt (op : ByteArray) (n : Int) (l : List (ByteArray × Int)) (c : Nat) (h1 : 1 ≤ c) (h2 : c ≤ 10) (w : World) (sa : Nat → Addr) (hE : Env10 w sa) :
    Calls Tryd.prog 14 #[flt op n (chn l (snt (sa c))), .int .i64 c, .string op, .int .i64 n] w fun r w' => r = .returned (.bool true) ∧ Below w.heap.size w w' := by
  have HE := Hid.in hE
  clear hE
  have hc : ((c : Int) == 0) = false := by simp; omega
  go_enter Tryd.func14, Tryd.ntmps14
  go_wp2_with fail
  refine (error_code _ sa (HE.out.below ((Below.refl _ _).alloc (Nat.le_refl _) _)) c h1 h2).mono ?_
  rintro r w' ⟨rfl, rfl⟩
  go_wp2_with fail
  refine (Is_chn ((op, n) :: l) (sa c) (sa c) _ ((HE.out.s c h1 h2).alloc _) ((HE.out.s c h1 h2).alloc _)).mono ?_
  rintro r w1 ⟨rfl, hb1⟩
  rw [show decide (sa c = sa c) = true from by simp]
  have hz : Zero3 w1 w.heap.size := (Zero3.new w _ rfl).below hb1 (by simp)
  have HB1 : Hid (Below w.heap.size w w1) := Hid.in (((Below.refl _ _).alloc (Nat.le_refl _) _).trans (hb1.mono (by simp)))
  have HZ := Hid.in hz
  clear hb1 hz
  go_wp2_with fail
  refine (As_flt op n (chn l (snt (sa c))) (chn_if _ _) w.heap.size _ (HE.out.et.below HB1.out HE.out.et.lt) HZ.out.var).mono ?_
  rintro r w2 ⟨rfl, hb2⟩
  have hlt : w.heap.size < w1.heap.size := HZ.out.var.lt
  obtain ⟨s0, s1, s2⟩ := set3_cells op n (chn l (snt (sa c))) HZ.out.var
  have k0 : w2.cell? ⟨w.heap.size, 0, none⟩ = some (.string op) := (hb2.cell (p := ⟨w.heap.size, 0, none⟩) hlt).trans s0
  have k1 : w2.cell? ⟨w.heap.size, 1, none⟩ = some (.int .i64 n) := (hb2.cell (p := ⟨w.heap.size, 1, none⟩) hlt).trans s1
  have HB2 : Hid (Below w.heap.size w w2) := Hid.in ((below_set3 HB1.out _ (Nat.le_refl _) _ _ _).trans (hb2.mono (Nat.le_of_lt hlt)))
  clear s0 s1 s2 hb2 hlt
  go_wp2
  go_ret
  exact ⟨rfl, HB2.out⟩

/-- assentkeep.Only of a way down to the sentinel of that code. -/
theorem kOnly_chn (l : List (ByteArray × Int)) (c : Nat) (h1 : 1 ≤ c) (h2 : c ≤ 10) (w : World) (sa : Nat → Addr) (hE : Env10 w sa) :
    Calls Tryd.prog 16 #[chn l (snt (sa c)), .int .i64 c] w fun r w' => r = .returned (.bool true) ∧ Below w.heap.size w w' := by
  have HE := Hid.in hE
  clear hE
  have hc : ((c : Int) == 0) = false := by simp; omega
  obtain ⟨t', v', he⟩ : ∃ t v, chn l (snt (sa c)) = .iface t v := by cases l with
    | nil => exact ⟨_, _, rfl⟩
    | cons x l => exact ⟨_, _, rfl⟩
  have HI : Hid (∀ d, 1 ≤ d → d ≤ 10 → ∀ W, Below w.heap.size w W → Calls Tryd.prog 25 #[.iface t' v', snt (sa d)] W fun r w' => r = .returned (.bool (decide (sa c = sa d))) ∧ Below W.heap.size W w') := Hid.in (by
    intro d h3 h4 W hW
    rw [← he]
    exact Is_chn l (sa c) (sa d) W ((HE.out.s c h1 h2).below hW (HE.out.s c h1 h2).lt) ((HE.out.s d h3 h4).below hW (HE.out.s d h3 h4).lt))
  rw [he]
  clear he
  go_enter Tryd.func16, Tryd.ntmps16
  go_wp2
  go_loopw [5] (fun i wr => ∃ k : Nat, 1 ≤ k ∧ k ≤ 11 ∧ i = .int .i64 k ∧ Below w.heap.size w wr) (fun i _ => 11 - (intOf i).toNat)
  case atStart => exact ⟨1, Nat.le_refl _, by omega, rfl, Below.refl _ _⟩
  case round =>
    obtain ⟨k, hk1, hk, rfl, hb⟩ := hrel
    have HB := Hid.in hb
    clear hb
    by_cases hlt : k ≤ 10
    · have HD : Hid (decide (sa c = sa k) = ((k : Int) == (c : Int))) := Hid.in (by
        by_cases e : c = k
        · subst e; simp
        · have h1 : ¬ sa c = sa k := fun e' => e (HE.out.inj c k h1 h2 hk1 hlt e')
          have h2 : ¬ (k : Int) = (c : Int) := by omega
          simp [h1, h2])
      generalize hq : ((k : Int) == (c : Int)) = q at HD
      go_wp2_with fail
      refine (error_code _ sa (HE.out.below HB.out) k hk1 hlt).mono ?_
      rintro r w' ⟨rfl, rfl⟩
      go_wp2_with fail
      refine (HI.out k hk1 hlt _ HB.out).mono ?_
      rintro r w2 ⟨rfl, hb2⟩
      rw [HD.out]
      have HB2 := Hid.in (bstep HB.out (Nat.le_refl _) hb2)
      clear hb2
      cases q
      all_goals
        go_wp2
        go_roundw
        case rel => exact ⟨k + 1, by omega, by omega, by go_num, HB2.out⟩
        case measure => simp [intOf]; omega
    · go_wp2
      go_ret
      exact ⟨rfl, HB.out⟩

/-- geom.Total of what Check takes, and of what it doesn't. -/
theorem total_yes (c0 c1 c2 c3 c4 c5 c6 c7 c8 : Int) (w : World) (sa : Nat → Addr) (hE : Env10 w sa) (h : fno (bs9 c0 c1 c2 c3 c4 c5 c6 c7 c8) 0 = -1) (hl : 1 ≤ c1 ∧ c1 ≤ 32) :
    Calls Tryd.prog 17 #[cfg c0 c1 c2 c3 c4 c5 c6 c7 c8] w fun r w' => r = .returned (.int .i64 (c1 * 4)) ∧ Below w.heap.size w w' := by
  have HC := Hid.in (check_any c0 c1 c2 c3 c4 c5 c6 c7 c8 (w.alloc (.cells #[.int .i64 c0, .int .i64 c1, .int .i64 c2, .int .i64 c3, .int .i64 c4, .int .i64 c5, .int .i64 c6, .int .i64 c7, .int .i64 c8] 26)) sa (hE.below ((Below.refl _ _).alloc (Nat.le_refl _) _)))
  rw [h] at HC
  obtain ⟨l1, l2⟩ := hl
  clear h hE
  go_enter Tryd.func17, Tryd.ntmps17
  go_wp2_with fail
  refine HC.out.mono ?_
  rintro r w1 ⟨rfl, hb⟩
  rw [show chkV (-1) (sa 1) = .nilIface from rfl]
  have k1 : w1.cell? ⟨w.heap.size, 1, none⟩ = some (.int .i64 c1) := (hb.cell (p := ⟨w.heap.size, 1, none⟩) (by simp)).trans (by simp)
  have HB : Hid (Below w.heap.size w w1) := Hid.in (((Below.refl _ _).alloc (Nat.le_refl _) _).trans (hb.mono (by simp)))
  clear hb
  go_wp2
  go_ret
  exact ⟨rfl, HB.out⟩
theorem total_no (c0 c1 c2 c3 c4 c5 c6 c7 c8 : Int) (w : World) (sa : Nat → Addr) (hE : Env10 w sa) (h : 0 ≤ fno (bs9 c0 c1 c2 c3 c4 c5 c6 c7 c8) 0) :
    Calls Tryd.prog 17 #[cfg c0 c1 c2 c3 c4 c5 c6 c7 c8] w fun r w' => r = .returned (.int .i64 0) ∧ Below w.heap.size w w' := by
  have HC := Hid.in (check_any c0 c1 c2 c3 c4 c5 c6 c7 c8 (w.alloc (.cells #[.int .i64 c0, .int .i64 c1, .int .i64 c2, .int .i64 c3, .int .i64 c4, .int .i64 c5, .int .i64 c6, .int .i64 c7, .int .i64 c8] 26)) sa (hE.below ((Below.refl _ _).alloc (Nat.le_refl _) _)))
  have HV : Hid (chkV (fno (bs9 c0 c1 c2 c3 c4 c5 c6 c7 c8) 0) (sa 1) = flt opC (fno (bs9 c0 c1 c2 c3 c4 c5 c6 c7 c8) 0) (snt (sa 1))) := Hid.in (by rw [chkV, if_neg (by omega)])
  clear h hE
  go_enter Tryd.func17, Tryd.ntmps17
  go_wp2_with fail
  refine HC.out.mono ?_
  rintro r w1 ⟨rfl, hb⟩
  rw [HV.out]
  have HB : Hid (Below w.heap.size w w1) := Hid.in (((Below.refl _ _).alloc (Nat.le_refl _) _).trans (hb.mono (by simp)))
  clear hb
  go_wp2
  go_ret
  exact ⟨rfl, HB.out⟩

theorem geomRuns_any (w : World) (sa : Nat → Addr) (hE : Env10 w sa) :
    Calls Tryd.prog 3 #[] w fun r w' => r = .returned (.bool true) ∧ Below w.heap.size w w' := by
  have HE := Hid.in hE
  clear hE
  go_enter Tryd.func3, Tryd.ntmps3
  go_wp2_with fail
  refine (check_any 1 1 3 1 1 1 1 1 0 _ sa HE.out).mono ?_
  rw [show chkV (fno (bs9 1 1 3 1 1 1 1 1 0) 0) (sa 1) = flt opC 2 (snt (sa 1)) from rfl]
  rintro r w1 ⟨rfl, hb⟩
  have HB := Hid.in hb
  clear hb
  go_wp2_with fail
  refine (line_any 9 _).mono ?_
  rw [show lineF 9 = 2 from rfl]
  rintro r w' ⟨rfl, rfl⟩
  go_wp2_with fail
  refine (word_any 9 _).mono ?_
  rw [show wordF 9 = 1 from rfl]
  rintro r w' ⟨rfl, rfl⟩
  go_wp2_with fail
  refine (addr_any 2 1 _).mono ?_
  rw [show addrF 2 1 = 9 from rfl]
  rintro r w' ⟨rfl, rfl⟩
  go_wp2_with fail
  refine (set_any 5 4 _).mono ?_
  rw [show setF 5 4 = 1 from rfl]
  rintro r w' ⟨rfl, rfl⟩
  go_wp2_with fail
  refine (area_any 5 _).mono ?_
  rw [show areaF 5 = 1 from rfl]
  rintro r w' ⟨rfl, rfl⟩
  go_wp2_with fail
  refine (line_any 128 _).mono ?_
  rw [show lineF 128 = -1 from rfl]
  rintro r w' ⟨rfl, rfl⟩
  go_wp2_with fail
  refine (kIs_flt opC 2 [] 1 (by omega) (by omega) _ sa (HE.out.below HB.out)).mono ?_
  rintro r w2 ⟨rfl, hb2⟩
  have HB2 := Hid.in (bstep HB.out (Nat.le_refl _) hb2)
  clear hb2
  go_wp2
  go_ret
  exact ⟨rfl, HB2.out⟩
end Go.Proofs.YtgaajnefegjoeabDoor

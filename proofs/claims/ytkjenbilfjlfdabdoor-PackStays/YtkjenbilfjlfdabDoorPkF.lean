/- DERIVED of the program: PackRuns returns true. Own work. -/
import Derived.Test.YtkjenbilfjlfdabDoorPkE
namespace Go.Proofs.YtkjenbilfjlfdabDoor
open Go.RowKit Go.Extern.Stop Go.Stop Go.Extern

theorem Lie.lit (w : World) (t : TypeId) (bs : List Nat) (cs : Array Value) (hcs : cs = (bys bs).toArray) : Lie (w.alloc (.cells cs t)) (some ⟨w.heap.size, 0, none⟩) bs.length bs := by
  subst hcs
  refine ⟨Nat.le_refl _, (by simp), fun k hk => ⟨w.heap.size, 0, rfl, ?_⟩⟩
  simp [bys, hk]

theorem below_alloc (w : World) (o : Obj) : Below w.heap.size w (w.alloc o) := (Below.refl _ _).alloc (Nat.le_refl _) _

/-- A call that writes the one block q, of the caller's own. -/
theorem wrote {B : Nat} {w w1 w2 : World} {q : Nat} (h : Below B w w1) (hg : w1.grownBy w2 (some q)) (hB : B ≤ w.heap.size) (hq : B ≤ q) : Below B w w2 :=
  h.grown hg (Nat.le_trans hB h.size) (fun k hk => by cases hk; exact hq)

set_option maxHeartbeats 1600000 in
set_option maxRecDepth 20000 in
theorem packRuns_any (w : World) (sa : Nat → Addr) (hE : Env10 w sa) :
    Calls Tryd.prog 11 #[] w fun r w' => r = .returned (.bool true) ∧ Below w.heap.size w w' := by
  have HE := Hid.in hE
  clear hE
  go_enter Tryd.func11, Tryd.ntmps11
  go_wp2_with fail
  refine (read_any _ _ [2, 128] _ sa (Lie.lit _ _ _ _ rfl) (by decide) (by decide)).mono ?_
  rintro r w1 ⟨qa, rfl, hRa, hba⟩
  have HB1 : Hid (Below w.heap.size w w1) := Hid.in (bstep (below_alloc w _) (Nat.le_refl _) hba)
  have HRa : Hid (Rd w1 sa w.heap.size w1.heap.size qa [2, 128] 0 0) := Hid.in (hRa.wide (by simp) (Nat.le_refl _))
  clear hRa hba
  go_wp2_with fail
  refine (read_any _ _ [10] _ sa (Lie.lit _ _ _ _ rfl) (by decide) (by decide)).mono ?_
  rintro r w2 ⟨qb, rfl, hRb, hbb⟩
  have HB2 : Hid (Below w1.heap.size w1 w2) := Hid.in (bstep (below_alloc w1 _) (Nat.le_refl _) hbb)
  have HRb : Hid (Rd w2 sa w1.heap.size w2.heap.size qb [10] 0 0) := Hid.in (hRb.wide (by simp) (Nat.le_refl _))
  clear hRb hbb
  go_wp2_with fail
  refine (read_any _ _ [2] _ sa (Lie.lit _ _ _ _ rfl) (by decide) (by decide)).mono ?_
  rintro r w3 ⟨qc, rfl, hRc, hbc⟩
  have HB3 : Hid (Below w2.heap.size w2 w3) := Hid.in (bstep (below_alloc w2 _) (Nat.le_refl _) hbc)
  have HRc : Hid (Rd w3 sa w2.heap.size w3.heap.size qc [2] 0 0) := Hid.in (hRc.wide (by simp) (Nat.le_refl _))
  clear hRc hbc
  have HW3 : Hid (Below w.heap.size w w3) := Hid.in (bstep (bstep HB1.out (Nat.le_refl _) HB2.out) (Nat.le_refl _) HB3.out)
  have HQ : Hid (w.heap.size ≤ qa ∧ qa < w1.heap.size ∧ w1.heap.size ≤ qb ∧ qb < w2.heap.size ∧ w2.heap.size ≤ qc ∧ qc < w3.heap.size ∧ w.heap.size ≤ w1.heap.size ∧ w1.heap.size ≤ w2.heap.size ∧ w2.heap.size ≤ w3.heap.size) :=
    Hid.in ⟨HRa.out.rng.1, HRa.out.rng.2, HRb.out.rng.1, HRb.out.rng.2, HRc.out.rng.1, HRc.out.rng.2, HB1.out.size, HB2.out.size, HB3.out.size⟩
  go_wp2_with fail
  refine (rnum_any w3 sa (HE.out.below HW3.out) w.heap.size w1.heap.size qa 0 0 [2, 128] ((HRa.out.step HB2.out).step HB3.out)).mono ?_
  rw [show numS [2, 128] 0 0 = (0, 1, 1) by decide]
  rintro r w4 ⟨rfl, hR4, hg4⟩
  have HR4 := Hid.in hR4
  have HW4 : Hid (Below w.heap.size w w4) := Hid.in (wrote HW3.out hg4 (Nat.le_refl _) HQ.out.1)
  have HG4 := Hid.in hg4
  clear hR4 hg4
  go_wp2_with fail
  refine (rnum_any w4 sa (HE.out.below HW4.out) w.heap.size w1.heap.size qa 1 0 [2, 128] HR4.out).mono ?_
  rw [show numS [2, 128] 1 0 = (3, 0, 1) by decide]
  rintro r w5 ⟨rfl, hR5, hg5⟩
  have HR5 := Hid.in hR5
  have HW5 : Hid (Below w.heap.size w w5) := Hid.in (wrote HW4.out hg5 (Nat.le_refl _) HQ.out.1)
  have HG5 : Hid (w3.grownBy w5 (some qa)) := Hid.in (grown_trans HG4.out hg5)
  clear hR5 hg5
  have HRb5 : Hid (Rd w5 sa w1.heap.size w2.heap.size qb [10] 0 0) := Hid.in ((HRb.out.step HB3.out).kept HG5.out (fun k hk => by cases hk; have := HQ.out; omega))
  have HRc5 : Hid (Rd w5 sa w2.heap.size w3.heap.size qc [2] 0 0) := Hid.in (HRc.out.kept HG5.out (fun k hk => by cases hk; have := HQ.out; omega))
  clear HG4 HG5 HB1 HB2 HB3 HRa HRb HRc HR4 HW3 HW4
  go_wp2_with fail
  refine (in_any w5 sa (HE.out.below HW5.out) w1.heap.size w2.heap.size qb 0 0 [10] HRb5.out 0 4).mono ?_
  rw [show inS [10] 0 4 0 0 = (4, 0, 0) by decide]
  rintro r w6 ⟨rfl, hR6, hg6⟩
  have HRb6 := Hid.in hR6
  have HW6 : Hid (Below w.heap.size w w6) := Hid.in (wrote HW5.out hg6 (Nat.le_refl _) (by have := HQ.out; omega))
  have HRa6 : Hid (Rd w6 sa w.heap.size w1.heap.size qa [2, 128] 1 3) := Hid.in (HR5.out.kept hg6 (fun k hk => by cases hk; have := HQ.out; omega))
  have HRc6 : Hid (Rd w6 sa w2.heap.size w3.heap.size qc [2] 0 0) := Hid.in (HRc5.out.kept hg6 (fun k hk => by cases hk; have := HQ.out; omega))
  clear hR6 hg6 HRb5 HRc5 HR5 HW5
  go_wp2_with fail
  refine (num_any none 0 [] (-1) w6 (Lie.nil _) (by decide) (by decide) (by decide)).mono ?_
  rw [show enc (zz (-1)) = [1] from enc_lt (by decide)]
  rintro r w7 ⟨an1, cn1, rfl, hO7, hb7⟩
  have HO7 := Hid.in hO7
  have HB7 := Hid.in hb7
  clear hO7 hb7
  go_wp2_with fail
  refine (same_any _ _ _ _ _ _ [1] [1] _ rfl rfl (HO7.out.lie.step (below_alloc _ _)) (Lie.lit1 _ _ _ 1 rfl) (by decide)).mono ?_
  rintro r w8 ⟨rfl, hb8⟩
  have HB8 : Hid (Below w6.heap.size w6 w8) := Hid.in (bstep (bstep HB7.out (Nat.le_refl _) (below_alloc _ _)) (Nat.le_refl _) hb8)
  clear hb8 HB7 HO7
  go_wp2_with fail
  refine (num_any none 0 [] 64 w8 (Lie.nil _) (by decide) (by decide) (by decide)).mono ?_
  rw [show enc (zz 64) = [128, 1] from (enc_ge (by decide)).trans (by rw [show zz 64 / 128 = 1 from rfl, enc_lt (by decide)]; rfl)]
  rintro r w9 ⟨an2, cn2, rfl, hO9, hb9⟩
  have HO9 := Hid.in hO9
  have HB9 := Hid.in (bstep HB8.out (Nat.le_refl _) hb9)
  clear hO9 hb9
  go_wp2_with fail
  refine (same_any _ _ _ _ _ _ [128, 1] [128, 1] _ rfl rfl (HO9.out.lie.step (below_alloc _ _)) (Lie.lit _ _ _ _ rfl) (by decide)).mono ?_
  rintro r wa ⟨rfl, hba⟩
  have HBa : Hid (Below w6.heap.size w6 wa) := Hid.in (bstep (bstep HB9.out (Nat.le_refl _) (below_alloc _ _)) (Nat.le_refl _) hba)
  have HWa : Hid (Below w.heap.size w wa) := Hid.in (bstep HW6.out (Nat.le_refl _) HBa.out)
  clear hba HB9 HO9 HB8
  go_wp2_with fail
  refine (rwrong_any wa sa _ _ qa 1 3 [2, 128] (HRa6.out.step HBa.out)).mono ?_
  rw [show rerr sa 3 1 = flt opP 1 (snt (sa 3)) from rfl]
  rintro r w' ⟨rfl, rfl⟩
  go_wp2_with fail
  refine (kIs_flt opP 1 [] 3 (by omega) (by omega) _ sa (HE.out.below HWa.out)).mono ?_
  rintro r wb ⟨rfl, hbb⟩
  have HWb : Hid (Below w.heap.size w wb) := Hid.in (bstep HWa.out (Nat.le_refl _) hbb)
  have HBb : Hid (Below w6.heap.size w6 wb) := Hid.in (bstep HBa.out (Nat.le_refl _) hbb)
  clear hbb
  go_wp2_with fail
  refine (rwrong_any wb sa _ _ qb 0 4 [10] (HRb6.out.step HBb.out)).mono ?_
  rw [show rerr sa 4 0 = flt opP 0 (snt (sa 4)) from rfl]
  rintro r w' ⟨rfl, rfl⟩
  go_wp2_with fail
  refine (kIs_flt opP 0 [] 4 (by omega) (by omega) _ sa (HE.out.below HWb.out)).mono ?_
  rintro r wc ⟨rfl, hbc⟩
  have HWc : Hid (Below w.heap.size w wc) := Hid.in (bstep HWb.out (Nat.le_refl _) hbc)
  have HBc : Hid (Below w6.heap.size w6 wc) := Hid.in (bstep HBb.out (Nat.le_refl _) hbc)
  clear hbc
  go_wp2_with fail
  refine (rend_any wc sa (HE.out.below HWc.out) _ _ qc 0 0 [2] (HRc6.out.step HBc.out)).mono ?_
  rw [show endS [2] 0 0 = 5 from rfl, show rerr sa 5 0 = flt opP 0 (snt (sa 5)) from rfl]
  rintro r wd ⟨rfl, hRd, hgd⟩
  have HWd : Hid (Below w.heap.size w wd) := Hid.in (wrote HWc.out hgd (Nat.le_refl _) (by have := HQ.out; omega))
  clear hRd hgd
  go_wp2_with fail
  refine (kIs_flt opP 0 [] 5 (by omega) (by omega) _ sa (HE.out.below HWd.out)).mono ?_
  rintro r we ⟨rfl, hbe⟩
  have HWe : Hid (Below w.heap.size w we) := Hid.in (bstep HWd.out (Nat.le_refl _) hbe)
  clear hbe
  go_wp2
  go_ret
  exact ⟨rfl, HWe.out⟩

end Go.Proofs.YtkjenbilfjlfdabDoor

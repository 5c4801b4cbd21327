/- DERIVED of the program: ProgRuns returns true. Own work. -/
import Derived.Test.YtbanihjjeicdaaaDoorPgE
import Derived.Test.YtbanihjjeicdaaaDoorSameA
namespace Go.Proofs.YtbanihjjeicdaaaDoor
open Go.RowKit Go.Extern.Stop Go.Stop Go.Extern

/-- A literal's rows. -/
theorem Rows'.lits (m : Nat) (w : World) (t : TypeId) (rs : List (List Value)) (o : Obj) (ho : o = .cells rs.flatten.toArray t) (he : ∀ r ∈ rs, r.length = m ∧ ∀ v ∈ r, v.oneCell' = true) : Rows' m (w.alloc o) (some ⟨w.heap.size, 0, none⟩) rs.length rs := by
  subst ho
  refine ⟨Nat.le_refl _, fun k hk c v hv => ⟨w.heap.size, 0, rfl, ?_⟩, he, fun e => by cases e⟩
  have hc : c < m := by
    have := (List.getElem?_eq_some_iff.1 hv).1
    rwa [(he _ (List.getElem_mem hk)).1] at this
  refine blk_cell (heap_alloc_new _ _) ?_
  rw [Nat.zero_add, List.getElem?_toArray, flat_get (fun r hr => (he r hr).1) k c hk hc]
  exact hv

theorem RowO.lits (w : World) (L : List O4) (o : Obj) (ho : o = .cells (L.map oc).flatten.toArray 29) : RowO (w.alloc o) (some ⟨w.heap.size, 0, none⟩) L.length L := by
  have := Rows'.lits 4 w 29 (L.map oc) o ho (fun r hr => ⟨ocs_each L r hr, ocs_one L r hr⟩)
  rwa [List.length_map] at this

theorem runs_bytes : encP [(1, 1, 0, 0), (2, 2, 5, 0), (3, 0, 7, 1), (4, 0, 0, 0)] = [8, 2, 2, 4, 4, 10, 6, 0, 14, 2, 8] := by
  have h0 : enc (zz 0) = [0] := enc_lt (by decide)
  have h1 : enc (zz 1) = [2] := enc_lt (by decide)
  have h2 : enc (zz 2) = [4] := enc_lt (by decide)
  have h3 : enc (zz 3) = [6] := enc_lt (by decide)
  have h4 : enc (zz 4) = [8] := enc_lt (by decide)
  have h5 : enc (zz 5) = [10] := enc_lt (by decide)
  have h7 : enc (zz 7) = [14] := enc_lt (by decide)
  simp [encP, encL, encO1, encO2, encO3, encO4, h0, h1, h2, h3, h4, h5, h7]

theorem blkBelow {B : Nat} {w w1 : World} (h : Below B w w1) (hB : B ≤ w.heap.size) {w2 : World} (h2 : Below w1.heap.size w1 w2) : Below B w w2 := bstep h hB h2

set_option maxHeartbeats 1600000 in
set_option maxRecDepth 20000 in
theorem progRuns_any (w : World) (sa : Nat → Addr) (hE : Env10 w sa) : Calls Tryd.prog 3 #[] w fun r w' => r = .returned (.bool true) ∧ Below w.heap.size w w' := by
  have HE := Hid.in hE
  clear hE
  go_enter Tryd.func3, Tryd.ntmps3
  go_wp2_with fail
  refine (put_ok _ 4 _ [(1, 1, 0, 0), (2, 2, 5, 0), (3, 0, 7, 1), (4, 0, 0, 0)] 4 _ sa (HE.out.below (below_alloc _ _)) rfl (by decide) (RowO.lits _ _ _ rfl) (by simp [O32]; decide)).mono ?_
  rw [runs_bytes]
  rintro r w1 ⟨a1, M1, c1, rfl, hM1, hL1, hb1⟩
  have HM1 := Hid.in hM1
  have HL1 := Hid.in hL1
  have HB1 := Hid.in (bstep (below_alloc w _) (Nat.le_refl _) hb1)
  clear hM1 hL1 hb1
  go_wp2_with fail
  refine (parse_any _ 3 _ [2, 2, 8] 4 _ sa (HE.out.below (bstep HB1.out (Nat.le_refl _) (below_alloc _ _))) rfl (Lie.lit _ _ _ _ rfl) (by decide) (by decide) (by decide) (by decide) 4 2 [(1, 0, 0, 0)] (by decide +kernel)).mono ?_
  rintro r w2 ⟨v2, e2, rfl, hb2, hw, _⟩
  obtain ⟨rfl, rfl⟩ := hw (by decide)
  rw [show endS [2, 2, 8] 2 4 = 4 from rfl]
  have HL2 := Hid.in (HL1.out.step (bstep (below_alloc w1 _) (Nat.le_refl _) hb2))
  have HB2 := Hid.in (bstep HB1.out (Nat.le_refl _) (bstep (below_alloc w1 _) (Nat.le_refl _) hb2))
  clear hb2 hw HL1 HB1
  go_wp2_with fail
  refine (put_any _ 1 _ [(1, 4, 0, 0)] 4 _ sa (HE.out.below (bstep HB2.out (Nat.le_refl _) (below_alloc _ _))) rfl (by decide) (RowO.lits _ _ _ rfl) (by simp [O32])).mono ?_
  rintro r w3 ⟨v3, e3, rfl, hb3, hw⟩
  obtain ⟨rfl, rfl⟩ : v3 = .slice none 0 0 ∧ e3 = flt opGPut 0 (snt (sa 1)) := by
    rcases hw with ⟨h, _⟩ | ⟨i, x, h1, h2, h3, h4, h5⟩
    · exact absurd (h (1, 4, 0, 0) (by simp)) (by decide)
    · have hi : i = 0 := by
        have := (List.getElem?_eq_some_iff.1 h1).1
        simp at this
        exact this
      subst hi
      exact ⟨h4, h5⟩
  have HL3 := Hid.in (HL2.out.step (bstep (below_alloc w2 _) (Nat.le_refl _) hb3))
  have HB3 := Hid.in (bstep HB2.out (Nat.le_refl _) (bstep (below_alloc w2 _) (Nat.le_refl _) hb3))
  clear hb3 hw HL2 HB2
  go_wp2_with fail
  refine (same_any _ _ _ _ _ _ [8, 2, 2, 4, 4, 10, 6, 0, 14, 2, 8] [8, 2, 2, 4, 4, 10, 6, 0, 14, 2, 8] _ HM1.out rfl (HL3.out.step (below_alloc _ _)) (Lie.lit _ _ _ _ rfl) (by decide)).mono ?_
  rintro r w4 ⟨rfl, hb4⟩
  have HB4 := Hid.in (bstep HB3.out (Nat.le_refl _) (bstep (below_alloc w3 _) (Nat.le_refl _) hb4))
  clear hb4 HL3 HB3
  go_wp2_with fail
  refine (kIs_flt opGParse 0 [(opP, 2)] 4 (by omega) (by omega) w4 sa (HE.out.below HB4.out)).mono ?_
  rintro r w5 ⟨rfl, hb5⟩
  have HB5 := Hid.in (bstep HB4.out (Nat.le_refl _) hb5)
  clear hb5 HB4
  go_wp2_with fail
  refine (ops_chn [(opGParse, 0), (opP, 2)] (sa 4) w5 (by decide)).mono ?_
  rintro r w6 ⟨v6, rfl, hO6, hb6⟩
  have HR6 : Hid (Reads w6 v6 [opGParse, opP]) := Hid.in (reads_of_owns [opGParse, opP] hO6 rfl rfl)
  have HB6 := Hid.in (bstep HB5.out (Nat.le_refl _) hb6)
  clear hO6 hb6 HB5
  go_wp2_with fail
  refine (same_reads v6 _ [opGParse, opP] _ (by decide) (HR6.out.alloc _) (reads_new _ _ rfl _ _ _)).mono ?_
  rintro r w7 ⟨rfl, hb7⟩
  have HB7 := Hid.in (bstep HB6.out (Nat.le_refl _) (bstep (below_alloc w6 _) (Nat.le_refl _) hb7))
  clear hb7 HB6
  go_wp2_with fail
  refine (kIs_flt opGPut 0 [] 1 (by omega) (by omega) w7 sa (HE.out.below HB7.out)).mono ?_
  rintro r w8 ⟨rfl, hb8⟩
  have HB8 := Hid.in (bstep HB7.out (Nat.le_refl _) hb8)
  clear hb8 HB7
  go_wp2
  go_ret
  exact ⟨rfl, HB8.out⟩

end Go.Proofs.YtbanihjjeicdaaaDoor

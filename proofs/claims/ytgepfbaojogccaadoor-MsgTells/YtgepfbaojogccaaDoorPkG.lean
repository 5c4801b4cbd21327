/- DERIVED of the program: assentbook.Roomy and Intact of bytes; assentref1.Num. Own work. -/
import Derived.Test.YtgepfbaojogccaaDoorPkF
namespace Go.Proofs.YtgepfbaojogccaaDoor
open Go.RowKit Go.Extern.Stop Go.Stop Go.Extern

theorem set_fill (L : List Value) (k : Nat) (hk : k < 80) (M Z : Value) :
    (L ++ (List.replicate k M ++ List.replicate (80 - k) Z)).toArray.setIfInBounds (L.length + k) M = (L ++ (List.replicate (k + 1) M ++ List.replicate (80 - (k + 1)) Z)).toArray := by
  apply Array.toList_inj.1
  rw [Array.toList_setIfInBounds]
  show (L ++ (List.replicate k M ++ List.replicate (80 - k) Z)).set (L.length + k) M = _
  rw [List.set_append_right _ _ (by omega), show 80 - k = (80 - (k + 1)) + 1 from by omega, List.replicate_succ, List.set_append_right _ _ (by simp)]
  simp [List.replicate_succ']

theorem bys_rep (k m : Nat) : bys (List.replicate k m) = List.replicate k (Value.int .u8 (m : Int)) := by simp [bys]

set_option maxHeartbeats 1600000 in
set_option maxRecDepth 20000 in
theorem roomy_any (ao : Option Addr) (cap : Nat) (bs : List Nat) (m : Nat) (w : World) (hL : Lie w ao cap bs) (hlen : bs.length ≤ 140737488355328) :
    Calls Tryd.prog 16 #[.slice ao bs.length cap, .int .u8 (m : Int)] w fun r w' => r = .returned (.slice (some ⟨w.heap.size, 0, none⟩) (bs.length + 80) (bs.length + 80)) ∧
      w'.heap[w.heap.size]? = some (.cells (bys (bs ++ List.replicate 80 m)).toArray 5 (0, 0)) ∧ Below w.heap.size w w' := by
  obtain ⟨i0, hi, hz0, hz1, hz2⟩ := info_parts Tryd.infoU8
  have HI := Hid.in (And.intro hi (And.intro hz0 (And.intro hz1 hz2)))
  clear hi hz0 hz1 hz2
  obtain ⟨Z, hZ⟩ : ∃ Z, Z = List.replicate (bs.length + 80) (Value.int .u8 0) := ⟨_, rfl⟩
  have HZZ := Hid.in hZ
  have HZL : Hid (Z.length = bs.length + 80) := Hid.in (by rw [hZ]; simp)
  clear hZ
  have HL := Hid.in hL
  clear hL
  go_enter Tryd.func16, Tryd.ntmps16
  go_upto_region 2 with (at_make; refine wpList_make_room _ rfl _ _ 22 rfl 5 i0 Tryd.underlying22 HI.out.1 HI.out.2.1 HI.out.2.2.1 HI.out.2.2.2 _ _ _ _ (bs.length + 80) (bs.length + 80) rfl rfl (by omega) (by omega) (by omega) (by omega) Z HZZ.out ?_)
  have HL2 : Hid (Lie (w.alloc (.cells Z.toArray 5)) ao cap bs) := Hid.in (HL.out.step ((Below.refl _ _).alloc (Nat.le_refl _) _))
  have HG : Hid ((w.alloc (.cells Z.toArray 5)).heap[w.heap.size]? = some (.cells Z.toArray 5 (0, 0))) := Hid.in (heap_alloc_new _ _)
  have HP : Hid (0 < (bys bs).length → (some ⟨w.heap.size, 0, none⟩ : Option Addr) = some ⟨w.heap.size, 0, none⟩ ∧ ∃ ad, ao = some ad ∧ ∀ j v, (bys bs)[j]? = some v → (w.alloc (.cells Z.toArray 5)).cell? (ad.add j) = some v) := Hid.in (fun hp => ⟨rfl, HL2.out.src (by rwa [bys_length] at hp)⟩)
  have HS : Hid ((Tryd.prog.info? 5).map (·.size) = some 1) := Hid.in (by rw [HI.out.1]; exact congrArg some HI.out.2.2.1)
  have HB0 : Hid (Below w.heap.size w (w.alloc (.cells Z.toArray 5))) := Hid.in ((Below.refl _ _).alloc (Nat.le_refl _) _)
  go_wp2_with (first | (refine wpList_copy_splice rfl (.tmp 11) (.tmp 12) 22 22 rfl 5 Tryd.underlying22 HS.out _ _ _ _ _ _ rfl rfl w.heap.size 0 Z 5 HG.out (bys bs) (by simp [bys_length]) HP.out (by rw [HZL.out, bys_length]; omega) (bys_one bs) w.heap.size w HB0.out (Nat.le_refl _) ?_; intro w1 hh1 hb1; have HB1 := Hid.in hb1; clear hb1) | fail)
  go_loopw [6] (fun i wr => ∃ k : Nat, k ≤ 80 ∧ i = .int .i64 (bs.length + k : Nat) ∧ wr.heap[w.heap.size]? = some (.cells (bys bs ++ (List.replicate k (Value.int .u8 (m : Int)) ++ List.replicate (80 - k) (Value.int .u8 0))).toArray 5 (0, 0)) ∧ Below w.heap.size w wr) (fun i _ => bs.length + 80 - (intOf i).toNat)
  case atStart =>
    refine ⟨0, by omega, rfl, ?_, HB1.out⟩
    have h := hh1.out
    rw [HZZ.out] at h
    rw [h]
    simp [splice, bys_length]
  case round =>
    obtain ⟨k, hk, rfl, hq, hb⟩ := hrel
    have HQ := Hid.in hq
    have HB := Hid.in hb
    clear hq hb
    by_cases hlt : k < 80
    · obtain ⟨v0, hv0⟩ : ∃ v0, wr.cell? ⟨w.heap.size, bs.length + k, none⟩ = some v0 := by
        have h : bs.length + k < (bys bs ++ (List.replicate k (Value.int .u8 (m : Int)) ++ List.replicate (80 - k) (Value.int .u8 0))).toArray.size := by simp [bys_length]; omega
        exact ⟨_, blk_cell HQ.out (Array.getElem?_eq_getElem h)⟩
      have hf0 : wr.frozen? ⟨w.heap.size, bs.length + k, none⟩ = false := blk_free HQ.out
      go_wp2
      go_roundw
      case rel =>
        refine ⟨k + 1, by omega, by go_num, ?_, HB.out.setCell (p := ⟨w.heap.size, bs.length + k, none⟩) (Nat.le_refl _) _⟩
        have h := blk_set (i := bs.length + k) (.int .u8 (m : Int)) HQ.out
        rw [h, ← bys_length bs, set_fill _ _ hlt]
      case measure => simp [intOf]; omega
    · go_wp2
      go_ret
      refine ⟨rfl, ?_, HB.out⟩
      have h := HQ.out
      rw [show k = 80 from by omega] at h
      rw [h, bys_append, bys_rep]
      simp

end Go.Proofs.YtgepfbaojogccaaDoor

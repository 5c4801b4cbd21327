/- DERIVED of the program: assentbook.Roomy and Intact of numbers. Own work. -/
import Derived.Test.YthklcpoidefoiaaBtB
namespace Go.Proofs.Ythklcpoidefoiaa
open Go.RowKit Go.Extern.Stop Go.Stop Go.Extern

theorem set_fill (L : List Value) (k : Nat) (hk : k < 80) (M Z : Value) :
    (L ++ (List.replicate k M ++ List.replicate (80 - k) Z)).toArray.setIfInBounds (L.length + k) M = (L ++ (List.replicate (k + 1) M ++ List.replicate (80 - (k + 1)) Z)).toArray := by
  apply Array.toList_inj.1
  rw [Array.toList_setIfInBounds]
  show (L ++ (List.replicate k M ++ List.replicate (80 - k) Z)).set (L.length + k) M = _
  rw [List.set_append_right _ _ (by omega), show 80 - k = (80 - (k + 1)) + 1 from by omega, List.replicate_succ, List.set_append_right _ _ (by simp)]
  simp [List.replicate_succ']

theorem ivs_rep (k : Nat) (m : Int) : ivs (List.replicate k m) = List.replicate k (Value.int .i64 m) := by simp [ivs]

theorem blk_markI {w : World} {g k : Nat} {m : Int} {zs : List Int} {t : TypeId} (h : w.heap[g]? = some (.cells (ivs (zs ++ List.replicate 80 m)).toArray t (0, 0))) (hk : k < 80) : w.cell? ⟨g, zs.length + k, none⟩ = some (.int .i64 m) := by
  refine blk_cell h (ivs_some ?_)
  rw [List.getElem?_append_right (by omega), List.getElem?_replicate, if_pos (by omega)]

set_option maxHeartbeats 1600000 in
set_option maxRecDepth 20000 in
theorem roomyI_any (ao : Option Addr) (cap : Nat) (zs : List Int) (m : Int) (w : World) (hL : Ints w ao cap zs) (hlen : zs.length ≤ 17592186044416) :
    Calls Try.prog 19 #[.slice ao zs.length cap, .int .i64 m] w fun r w' => r = .returned (.slice (some ⟨w.heap.size, 0, none⟩) (zs.length + 80) (zs.length + 80)) ∧
      w'.heap[w.heap.size]? = some (.cells (ivs (zs ++ List.replicate 80 m)).toArray 3 (0, 0)) ∧ Below w.heap.size w w' := by
  obtain ⟨i0, hi, hz0, hz1, hz2⟩ := info_parts Try.infoInt
  have HI := Hid.in (And.intro hi (And.intro hz0 (And.intro hz1 hz2)))
  clear hi hz0 hz1 hz2
  obtain ⟨Z, hZ⟩ : ∃ Z, Z = List.replicate (zs.length + 80) (Value.int .i64 0) := ⟨_, rfl⟩
  have HZZ := Hid.in hZ
  have HZL : Hid (Z.length = zs.length + 80) := Hid.in (by rw [hZ]; simp)
  clear hZ
  have HL := Hid.in hL
  clear hL
  go_enter Try.func19, Try.ntmps19
  go_upto_region 2 with (at_make; refine wpList_make_ints _ rfl _ _ 28 rfl 3 i0 Try.underlying28 HI.out.1 HI.out.2.1 HI.out.2.2.1 HI.out.2.2.2 _ _ _ _ (zs.length + 80) (zs.length + 80) rfl rfl (by omega) (by omega) (by omega) (by omega) Z HZZ.out ?_)
  have HL2 : Hid (Ints (w.alloc (.cells Z.toArray 3)) ao cap zs) := Hid.in (HL.out.step ((Below.refl _ _).alloc (Nat.le_refl _) _))
  have HG : Hid ((w.alloc (.cells Z.toArray 3)).heap[w.heap.size]? = some (.cells Z.toArray 3 (0, 0))) := Hid.in (heap_alloc_new _ _)
  have HP : Hid (0 < (ivs zs).length → (some ⟨w.heap.size, 0, none⟩ : Option Addr) = some ⟨w.heap.size, 0, none⟩ ∧ ∃ ad, ao = some ad ∧ ∀ j v, (ivs zs)[j]? = some v → (w.alloc (.cells Z.toArray 3)).cell? (ad.add j) = some v) := Hid.in (fun hp => ⟨rfl, HL2.out.src (by rwa [ivs_length] at hp)⟩)
  have HS : Hid ((Try.prog.info? 3).map (·.size) = some 1) := Hid.in (by rw [HI.out.1]; exact congrArg some HI.out.2.2.1)
  have HB0 : Hid (Below w.heap.size w (w.alloc (.cells Z.toArray 3))) := Hid.in ((Below.refl _ _).alloc (Nat.le_refl _) _)
  go_wp2_with (first | (refine wpList_copy_splice rfl (.tmp 11) (.tmp 12) 28 28 rfl 3 Try.underlying28 HS.out _ _ _ _ _ _ rfl rfl w.heap.size 0 Z 3 HG.out (ivs zs) (by simp [ivs_length]) HP.out (by rw [HZL.out, ivs_length]; omega) (ivs_one zs) w.heap.size w HB0.out (Nat.le_refl _) ?_; intro w1 hh1 hb1; have HB1 := Hid.in hb1; clear hb1) | fail)
  go_loopw [6] (fun i wr => ∃ k : Nat, k ≤ 80 ∧ i = .int .i64 (zs.length + k : Nat) ∧ wr.heap[w.heap.size]? = some (.cells (ivs zs ++ (List.replicate k (Value.int .i64 m) ++ List.replicate (80 - k) (Value.int .i64 0))).toArray 3 (0, 0)) ∧ Below w.heap.size w wr) (fun i _ => zs.length + 80 - (intOf i).toNat)
  case atStart =>
    refine ⟨0, by omega, rfl, ?_, HB1.out⟩
    have h := hh1.out
    rw [HZZ.out] at h
    rw [h]
    simp [splice, ivs_length]
  case round =>
    obtain ⟨k, hk, rfl, hq, hb⟩ := hrel
    have HQ := Hid.in hq
    have HB := Hid.in hb
    clear hq hb
    by_cases hlt : k < 80
    · obtain ⟨v0, hv0⟩ : ∃ v0, wr.cell? ⟨w.heap.size, zs.length + k, none⟩ = some v0 := by
        have h : zs.length + k < (ivs zs ++ (List.replicate k (Value.int .i64 m) ++ List.replicate (80 - k) (Value.int .i64 0))).toArray.size := by simp [ivs_length]; omega
        exact ⟨_, blk_cell HQ.out (Array.getElem?_eq_getElem h)⟩
      have hf0 : wr.frozen? ⟨w.heap.size, zs.length + k, none⟩ = false := blk_free HQ.out
      go_wp2
      go_roundw
      case rel =>
        refine ⟨k + 1, by omega, by go_num, ?_, HB.out.setCell (p := ⟨w.heap.size, zs.length + k, none⟩) (Nat.le_refl _) _⟩
        have h := blk_set (i := zs.length + k) (.int .i64 m) HQ.out
        rw [h, ← ivs_length zs, set_fill _ _ hlt]
      case measure => simp [intOf]; omega
    · go_wp2
      go_ret
      refine ⟨rfl, ?_, HB.out⟩
      have h := HQ.out
      rw [show k = 80 from by omega] at h
      rw [h, ivs_append, ivs_rep]
      simp

set_option maxHeartbeats 1600000 in
set_option maxRecDepth 20000 in
theorem intactI_any (ao : Option Addr) (g cap c2 : Nat) (zs : List Int) (m : Int) (w : World) (hq : w.heap[g]? = some (.cells (ivs (zs ++ List.replicate 80 m)).toArray 3 (0, 0))) (hc2 : zs.length + 80 ≤ c2) (hL : Ints w ao cap zs) (hlen : zs.length ≤ 140737488355328) :
    Calls Try.prog 20 #[.slice (some ⟨g, 0, none⟩) (zs.length + 80) c2, .slice ao zs.length cap, .int .i64 m] w fun r w' => r = .returned (.bool true) ∧ Below w.heap.size w w' := by
  have HQ := Hid.in hq
  have HL := Hid.in hL
  clear hq hL
  go_enter Try.func20, Try.ntmps20
  go_wp2_with fail
  refine (sameI_any _ _ _ _ _ _ zs zs w rfl rfl (Ints.head HQ.out (by omega) HL.out.rng) HL.out (by omega)).mono ?_
  rw [show decide (zs = zs) = true from by simp]
  rintro r w1 ⟨rfl, hb1⟩
  have HB1 := Hid.in hb1
  clear hb1
  go_wp2
  go_loopw [7] (fun i wr => ∃ k : Nat, k ≤ 80 ∧ i = .int .i64 (zs.length + k : Nat) ∧ Below w.heap.size w wr) (fun i _ => zs.length + 80 - (intOf i).toNat)
  case atStart => exact ⟨0, by omega, rfl, HB1.out⟩
  case round =>
    obtain ⟨k, hk, rfl, hb⟩ := hrel
    have HB := Hid.in hb
    clear hb
    by_cases hlt : k < 80
    · have h1 : wr.cell? ⟨g, zs.length + k, none⟩ = some (.int .i64 m) := blk_markI ((HB.out.block g (blk_lt HQ.out)).trans HQ.out) hlt
      go_wp2
      go_roundw
      case rel => exact ⟨k + 1, by omega, by go_num, HB.out⟩
      case measure => simp [intOf]; omega
    · go_wp2
      go_ret
      exact ⟨rfl, HB.out⟩

end Go.Proofs.Ythklcpoidefoiaa

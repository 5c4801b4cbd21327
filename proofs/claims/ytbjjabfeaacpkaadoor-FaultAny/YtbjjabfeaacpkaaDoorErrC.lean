/- DERIVED of the program: fault.Depth and fault.Root over a way of Faults down to a sentinel. Own work. -/
import Derived.Test.YtbjjabfeaacpkaaDoorErrB
namespace Go.Proofs.YtbjjabfeaacpkaaDoor
open Go.RowKit Go.Extern.Stop Go.Stop Go.Extern

/-- What stands k steps down the way; behind the root there is nil. -/
def cur (l : List (ByteArray × Int)) (a : Addr) (k : Nat) : Value := if k ≤ l.length then chn (l.drop k) (snt a) else .nilIface
theorem cur_lt (l : List (ByteArray × Int)) (a : Addr) (k : Nat) (h : k < l.length) : cur l a k = flt l[k].1 l[k].2 (cur l a (k + 1)) := by
  unfold cur
  rw [if_pos (Nat.le_of_lt h), if_pos (show k + 1 ≤ l.length from h), List.drop_eq_getElem_cons h]
  rfl
theorem cur_eq (l : List (ByteArray × Int)) (a : Addr) (k : Nat) (h : k = l.length) : cur l a k = snt a := by
  subst h; simp [cur, chn]
theorem cur_gt (l : List (ByteArray × Int)) (a : Addr) (k : Nat) (h : l.length < k) : cur l a k = .nilIface := by
  unfold cur; rw [if_neg (by omega)]
theorem cur_if (l : List (ByteArray × Int)) (a : Addr) (k : Nat) : isIf (cur l a k) := by
  unfold cur; split
  · exact chn_if _ _
  · exact .inl rfl
theorem cur_zero (l : List (ByteArray × Int)) (a : Addr) : cur l a 0 = chn l (snt a) := by simp [cur]
theorem size_flt (op : ByteArray) (n : Int) (e : Value) : SizeOf.sizeOf e < SizeOf.sizeOf (flt op n e) := by
  simp [flt]; omega
theorem size_snt (a : Addr) : SizeOf.sizeOf Value.nilIface < SizeOf.sizeOf (snt a) := by
  simp [snt]; omega
theorem bstep {B : Nat} {w wr w' : World} (h : Below B w wr) (hB : B ≤ w.heap.size) (h' : Below wr.heap.size wr w') : Below B w w' :=
  h.trans (h'.mono (Nat.le_trans hB h.size))

set_option maxHeartbeats 800000 in
theorem depth_chn (l : List (ByteArray × Int)) (a : Addr) (w : World) (hl : l.length ≤ 1000000) :
    Calls Tryd.prog 14 #[chn l (snt a)] w fun r w' => r = .returned (.int .i64 (l.length + 1)) ∧ Below w.heap.size w w' := by
  rw [← cur_zero]
  go_enter Tryd.func14, Tryd.ntmps14
  go_wp2
  go_loopw [0, 3] (fun e n wr => ∃ k : Nat, k ≤ l.length + 1 ∧ e = cur l a k ∧ n = .int .i64 k ∧ Below w.heap.size w wr) (fun _ n _ => l.length + 2 - (intOf n).toNat)
  case atStart => exact ⟨0, Nat.zero_le _, rfl, rfl, Below.refl _ _⟩
  case round =>
    obtain ⟨k, hk, rfl, rfl, hb⟩ := hrel
    have HB := Hid.in hb
    clear hb
    rcases Nat.lt_trichotomy k l.length with hlt | heq | hgt
    · have hcu := cur_lt l a k hlt
      go_wp2_with (go_at_call 23; refine (below_flt _ _ _ (cur_if _ _ _) _).mono ?_; rintro e w' ⟨rfl, hb'⟩)
      go_roundw
      case rel => exact ⟨k + 1, by omega, rfl, by go_num, bstep HB.out (Nat.le_refl _) hb'⟩
      case measure => simp [intOf]; omega
    · have hcu := cur_eq l a k heq
      have hcv := cur_gt l a (k + 1) (by omega)
      have HE := Hid.in heq
      have HV := Hid.in hcv
      clear heq hcv
      go_wp2_with (go_at_call 23; refine (below_snt _ _).mono ?_; rintro e w' ⟨rfl, hb'⟩)
      go_roundw
      case rel => exact ⟨k + 1, by have := HE.out; omega, HV.out.symm, by go_num, bstep HB.out (Nat.le_refl _) hb'⟩
      case measure => have := HE.out; simp [intOf]; omega
    · have hcu := cur_gt l a k hgt
      have hk2 : Hid (k = l.length + 1) := Hid.in (by omega)
      go_wp2
      go_ret
      exact ⟨by have := hk2.out; subst this; simp, HB.out⟩

set_option maxHeartbeats 800000 in
theorem root_chn (l : List (ByteArray × Int)) (a : Addr) (w : World) (hl : l.length ≤ 1000000) :
    Calls Tryd.prog 11 #[chn l (snt a)] w fun r w' => r = .returned (snt a) ∧ Below w.heap.size w w' := by
  rw [← cur_zero]
  go_enter Tryd.func11, Tryd.ntmps11
  go_wp2
  go_loopw [0, 3] (fun e n wr => ∃ k : Nat, k ≤ l.length + 1 ∧ e = cur l a k ∧ n = cur l a (k - 1) ∧ Below w.heap.size w wr) (fun e _ _ => SizeOf.sizeOf e)
  case atStart => exact ⟨0, Nat.zero_le _, rfl, rfl, Below.refl _ _⟩
  case round =>
    obtain ⟨k, hk, rfl, rfl, hb⟩ := hrel
    have HB := Hid.in hb
    clear hb
    generalize hz : cur l a (k - 1) = z
    have HZ := Hid.in hz
    clear hz
    rcases Nat.lt_trichotomy k l.length with hlt | heq | hgt
    · have hcu := cur_lt l a k hlt
      go_wp2_with (go_at_call 23; refine (below_flt _ _ _ (cur_if _ _ _) _).mono ?_; rintro e w' ⟨rfl, hb'⟩)
      go_roundw
      case rel => exact ⟨k + 1, by omega, rfl, by simp [hcu], bstep HB.out (Nat.le_refl _) hb'⟩
      case measure => rw [hcu]; exact size_flt _ _ _
    · have hcu := cur_eq l a k heq
      have hcv := cur_gt l a (k + 1) (by omega)
      have HE := Hid.in heq
      have HV := Hid.in hcv
      clear heq hcv
      go_wp2_with (go_at_call 23; refine (below_snt _ _).mono ?_; rintro e w' ⟨rfl, hb'⟩)
      go_roundw
      case rel => exact ⟨k + 1, by have := HE.out; omega, HV.out.symm, by simp [hcu], bstep HB.out (Nat.le_refl _) hb'⟩
      case measure => rw [hcu]; exact size_snt _
    · have hcu := cur_gt l a k hgt
      have hk2 : Hid (k - 1 = l.length) := Hid.in (by omega)
      go_wp2
      go_ret
      exact ⟨congrArg Ending.returned (HZ.out.symm.trans (cur_eq _ _ _ hk2.out)), HB.out⟩
end Go.Proofs.YtbjjabfeaacpkaaDoor

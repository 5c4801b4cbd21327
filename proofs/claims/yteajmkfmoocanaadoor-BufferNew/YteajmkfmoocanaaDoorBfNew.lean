/- DERIVED of the program: BufferNew returns true. Own work. -/
import Derived.Test.YteajmkfmoocanaaDoorBfRuns
namespace Go.Proofs.YteajmkfmoocanaaDoor
open Go.RowKit Go.Extern.Stop Go.Stop Go.Extern

set_option maxHeartbeats 3200000 in
theorem bufferNew_any (w : World) (sa : Nat → Addr) (hE : Env10 w sa) (n0 n1 v : Int) : Calls Tryd.prog 7 #[.int .i64 n0, .int .i64 n1, .int .u32 v] w fun r w' => r = .returned (.bool true) ∧ Below w.heap.size w w' := by
  have HE := Hid.in hE
  clear hE
  have hw0 := wI_le n0 1 8 (by omega)
  have hw1 := wI_le n1 0 127 (by omega)
  obtain ⟨m, hm⟩ : ∃ m : Nat, wI n0 1 8 = (m : Int) := ⟨(wI n0 1 8).toNat, by omega⟩
  obtain ⟨a, ha⟩ : ∃ a : Int, wI n1 0 127 = a := ⟨_, rfl⟩
  have h1 : 1 ≤ m := by omega
  have h8 : m ≤ 8 := by omega
  have HA : Hid (wB a 0 127 = true) := Hid.in (wB_yes (by rw [← ha]; exact hw1))
  have HP : Hid (pushL m [] a v = (0, [(a, v)])) := Hid.in (pushL_ok v HA.out h1)
  have HF : Hid (fwdL [(a, v)] a = (v, true)) := Hid.in (by simp [fwdL])
  have HM := Hid.in hm
  have HAA := Hid.in ha
  clear hw0 hw1 hm ha
  go_enter Tryd.func7, Tryd.ntmps7
  go_wp2_with fail
  refine (within_i n0 1 8 w (by omega) (by omega) (by omega)).mono ?_
  rw [HM.out]
  rintro r w' ⟨rfl, rfl⟩
  go_wp2_with fail
  refine (bnew_ok w' m h1 h8).mono ?_
  rintro r w1 ⟨rfl, hT, hb⟩
  have HT1 := Hid.in hT
  have HB1 := Hid.in hb
  clear hT hb
  go_wp2_with fail
  refine (within_i n1 0 127 w1 (by omega) (by omega) (by omega)).mono ?_
  rw [HAA.out]
  rintro r w1 ⟨rfl, rfl⟩
  go_wp2_with fail
  refine (bhead_c w1 _ m _ _ HT1.out 0 0 false rfl).mono ?_
  rintro r w2 ⟨rfl, hb⟩
  have HT2 := Hid.in ((HT1.out.step hb).step (below_alloc w2 (.cells #[.int .i64 0, .int .u32 0] 32)))
  have HB2 := Hid.in (bstep (bstep HB1.out (Nat.le_refl _) hb) (Nat.le_refl _) (below_alloc w2 (.cells #[.int .i64 0, .int .u32 0] 32)))
  clear hb HT1
  go_wp2_with fail
  refine (bfwd_c _ _ m _ _ HT2.out a 0 false rfl).mono ?_
  rintro r w3 ⟨rfl, rfl⟩
  have hne := ne_write 0 0
  go_wp2_with fail
  refine (bpop_c _ _ m _ _ HT2.out false rfl).mono ?_
  rintro r w4 ⟨rfl, hW⟩
  have HT4 := Hid.in hW.b
  have HB4 := Hid.in (hW.below HT2.out HB2.out (Nat.le_refl _))
  clear hW HT2
  go_wp2_with fail
  refine (blist_c _ _ m _ _ HT4.out 0 rfl).mono ?_
  rintro r w5 ⟨ao, cap, rfl, _, hb⟩
  have HT5 := Hid.in (HT4.out.step hb)
  have HB5 := Hid.in (bstep HB4.out (Nat.le_refl _) hb)
  clear hb HT4
  go_wp2_with fail
  refine (bpush_c _ sa (HE.out.below HB5.out) _ m _ _ HT5.out a v 0 [(a, v)] HP.out).mono ?_
  rintro r w6 ⟨S6, rfl, hW⟩
  have HT6 := Hid.in hW.b
  have HB6 := Hid.in (hW.below HT5.out HB5.out (Nat.le_refl _))
  clear hW HT5
  rw [perr_none]
  go_wp2_with fail
  refine (bfwd_c _ _ m _ _ HT6.out a v true HF.out).mono ?_
  rintro r w6 ⟨rfl, rfl⟩
  go_wp2_with fail
  refine (bhead_c w6 _ m _ _ HT6.out a v true rfl).mono ?_
  rintro r w7 ⟨rfl, hb⟩
  have HT7 := Hid.in ((HT6.out.step hb).step (below_alloc w7 (.cells #[.int .i64 a, .int .u32 v] 32)))
  have HB7 := Hid.in (bstep (bstep HB6.out (Nat.le_refl _) hb) (Nat.le_refl _) (below_alloc w7 (.cells #[.int .i64 a, .int .u32 v] 32)))
  have HF7 := Hid.in ((HT6.out.step hb).far (Nat.le_refl _))
  clear hb HT6
  go_wp2_with fail
  refine (bpop_c _ _ m _ _ HT7.out true rfl).mono ?_
  rintro r w8 ⟨rfl, hW⟩
  have x0 : w8.cell? ⟨w7.heap.size, 0, none⟩ = some (.int .i64 a) := hW.f.cell (blk_cell (heap_alloc_new _ _) rfl) HF7.out
  have x1 : w8.cell? ⟨w7.heap.size, 1, none⟩ = some (.int .u32 v) := hW.f.cell (blk_cell (heap_alloc_new _ _) rfl) HF7.out
  have HT8 := Hid.in hW.b
  have HB8 := Hid.in (hW.below HT7.out HB7.out (Nat.le_refl _))
  clear hW HT7 hne
  go_wp2_with fail
  refine (bfwd_c w8 _ m _ _ HT8.out a 0 false rfl).mono ?_
  rintro r w8 ⟨rfl, rfl⟩
  have heq := eq_write a v
  go_wp2_with fail
  refine (bpop_c _ _ m _ _ HT8.out false rfl).mono ?_
  rintro r w9 ⟨rfl, hW⟩
  have HB9 := Hid.in (hW.below HT8.out HB8.out (Nat.le_refl _))
  clear hW HT8
  go_wp2_with fail
  refine (bufferRuns_any _ sa (HE.out.below HB9.out)).mono ?_
  rintro r wa ⟨rfl, hb⟩
  have HBa := Hid.in (bstep HB9.out (Nat.le_refl _) hb)
  clear hb
  go_wp2
  go_ret
  exact ⟨rfl, HBa.out⟩

end Go.Proofs.YteajmkfmoocanaaDoor

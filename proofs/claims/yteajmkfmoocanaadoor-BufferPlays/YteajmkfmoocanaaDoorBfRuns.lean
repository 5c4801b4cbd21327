/- DERIVED of the program: BufferRuns returns true. Own work. -/
import Derived.Test.YteajmkfmoocanaaDoorBfC
import Derived.Laws.StructEq
import Derived.ChangeKeysEq
namespace Go.Proofs.YteajmkfmoocanaaDoor
open Go.RowKit Go.Extern.Stop Go.Stop Go.Extern

set_option maxRecDepth 100000 in
theorem eqIn_write (d : Nat) (a b : Int) (w : World) : (Op.equalIn (d + 3) 32 (.agg #[.int .i64 a, .int .u32 b]) (.agg #[.int .i64 a, .int .u32 b])).run Tryd.prog w = .ok true w := by
  rw [run_equalIn_struct w (d + 2) 32 _ _ Tryd.underlying32 (by kernel_rfl)]
  simp [Op.eqFields, go_sem]
theorem ne_write (a b : Int) (w : World) : (binOp .neq 32 (.agg #[.int .i64 a, .int .u32 b]) (.agg #[.int .i64 a, .int .u32 b])).run Tryd.prog w = .ok (.bool false) w := by
  have h := eqIn_write 9997 a b w
  simp only [binOp]
  simp [Op.equal, Op.maxDepth, h]
theorem eq_write (a b : Int) (w : World) : (binOp .eql 32 (.agg #[.int .i64 a, .int .u32 b]) (.agg #[.int .i64 a, .int .u32 b])).run Tryd.prog w = .ok (.bool true) w := by
  have h := eqIn_write 9997 a b w
  simp only [binOp]
  simp [Op.equal, Op.maxDepth, h]

/-- What was laid behind a buffer's blocks is none of them. -/
theorem Buf.far {tb tw : TypeId} {w : World} {q m : Nat} {S : List Nat} {L : List (Int × Int)} (h : Buf tb tw w q S m L) {k : Nat} (hk : w.heap.size ≤ k) : k ∉ S := fun hm => absurd (h.mem k hm).2 (by omega)
theorem Went.out {tb tw : TypeId} {w w' : World} {q m k : Nat} {S S' : List Nat} {L : List (Int × Int)} (h : Went tb tw w w' q S S' m L) (hk : k ∉ S) (hl : k < w.heap.size) : k ∉ S' := fun hm => by
  rcases h.s k hm with h1 | h1
  · exact hk h1
  · omega

set_option maxHeartbeats 1600000 in
theorem bufferRuns_any (w : World) (sa : Nat → Addr) (hE : Env10 w sa) : Calls Tryd.prog 3 #[] w fun r w' => r = .returned (.bool true) ∧ Below w.heap.size w w' := by
  have HE := Hid.in hE
  clear hE
  go_enter Tryd.func3, Tryd.ntmps3
  go_wp2_with fail
  refine (bnew_ok w 2 (by omega) (by omega)).mono ?_
  rintro r w1 ⟨rfl, hT, hb⟩
  have HT1 := Hid.in hT
  have HB1 := Hid.in hb
  clear hT hb
  go_wp2_with fail
  refine (bpush_c w1 sa (HE.out.below HB1.out) _ 2 _ _ HT1.out 1 5 0 [(1, 5)] (by decide +kernel)).mono ?_
  rintro r w2 ⟨S2, rfl, hW⟩
  have HT2 := Hid.in hW.b
  have HB2 := Hid.in (hW.below HT1.out HB1.out (Nat.le_refl _))
  clear hW HT1
  rw [perr_none]
  go_wp2_with fail
  refine (bpush_c w2 sa (HE.out.below HB2.out) _ 2 _ _ HT2.out 1 6 0 [(1, 5), (1, 6)] (by decide +kernel)).mono ?_
  rintro r w3 ⟨S3, rfl, hW⟩
  have HT3 := Hid.in hW.b
  have HB3 := Hid.in (hW.below HT2.out HB2.out (Nat.le_refl _))
  clear hW HT2
  rw [perr_none]
  go_wp2_with fail
  refine (bpush_c w3 sa (HE.out.below HB3.out) _ 2 _ _ HT3.out 2 7 6 [(1, 5), (1, 6)] (by decide +kernel)).mono ?_
  rintro r w4 ⟨S4, rfl, hW⟩
  have HT4 := Hid.in hW.b
  have HB4 := Hid.in (hW.below HT3.out HB3.out (Nat.le_refl _))
  clear hW HT3
  rw [perr_some _ _ _ _ (by decide)]
  go_wp2_with fail
  refine (bfwd_c w4 _ 2 _ _ HT4.out 1 6 true (by decide +kernel)).mono ?_
  rintro r w4 ⟨rfl, rfl⟩
  go_wp2_with fail
  refine (bhead_c w4 _ 2 _ _ HT4.out 1 5 true (by decide +kernel)).mono ?_
  rintro r w5 ⟨rfl, hb⟩
  have HT5 := Hid.in ((HT4.out.step hb).step (below_alloc w5 (.cells #[.int .i64 1, .int .u32 5] 32)))
  have HB5 := Hid.in (bstep (bstep HB4.out (Nat.le_refl _) hb) (Nat.le_refl _) (below_alloc w5 (.cells #[.int .i64 1, .int .u32 5] 32)))
  have HF5 := Hid.in ((HT4.out.step hb).far (Nat.le_refl _))
  clear hb HT4
  go_wp2_with fail
  refine (bpop_c _ _ 2 _ _ HT5.out true (by decide +kernel)).mono ?_
  rintro r w6 ⟨rfl, hW⟩
  have x0 : w6.cell? ⟨w5.heap.size, 0, none⟩ = some (.int .i64 1) := hW.f.cell (blk_cell (heap_alloc_new _ _) rfl) HF5.out
  have x1 : w6.cell? ⟨w5.heap.size, 1, none⟩ = some (.int .u32 5) := hW.f.cell (blk_cell (heap_alloc_new _ _) rfl) HF5.out
  have HT6 := Hid.in hW.b
  have HB6 := Hid.in (hW.below HT5.out HB5.out (Nat.le_refl _))
  clear hW HT5
  go_wp2_with fail
  refine (bfwd_c w6 _ 2 _ _ HT6.out 1 6 true (by decide +kernel)).mono ?_
  rintro r w6 ⟨rfl, rfl⟩
  have heq := eq_write 1 5
  go_wp2_with fail
  refine (kIs_flt opBPush 2 [] 6 (by omega) (by omega) w6 sa (HE.out.below HB6.out)).mono ?_
  rintro r w7 ⟨rfl, hb⟩
  have y0 : w7.cell? ⟨w5.heap.size, 0, none⟩ = some (.int .i64 1) := (hb.cell (p := ⟨w5.heap.size, 0, none⟩) (lt_cell (q := ⟨w5.heap.size, 0, none⟩) x0)).trans x0
  have y1 : w7.cell? ⟨w5.heap.size, 1, none⟩ = some (.int .u32 5) := (hb.cell (p := ⟨w5.heap.size, 1, none⟩) (lt_cell (q := ⟨w5.heap.size, 1, none⟩) x1)).trans x1
  have HB7 := Hid.in (bstep HB6.out (Nat.le_refl _) hb)
  clear hb x0 x1
  go_wp2
  go_ret
  exact ⟨rfl, HB7.out⟩

end Go.Proofs.YteajmkfmoocanaaDoor

/- DERIVED of the program: msg.Right, msg.Put by their contracts. Own work. -/
import Derived.Test.YtakomlmbdienpaaDoorSgEq
namespace Go.Proofs.YtakomlmbdienpaaDoor
open Go.RowKit Go.Extern.Stop Go.Stop Go.Extern

theorem sungr_any (m : M13) (w : World) : Calls Tryd.prog 42 #[.agg (mv m)] w fun r w' => r = .returned (.bool (ungr m)) ∧ Below w.heap.size w w' := by
  obtain ⟨k, c, l, t, o, e, w_, v, d0, d1, d2, d3, h⟩ := m
  simp only [mv, ungr]
  have hb := heap_alloc_new w (.cells #[.int .i64 k, .int .i64 c, .int .i64 l, .int .i64 t, .int .i64 o, .int .i64 e, .int .i64 w_, .int .u32 v, .int .u32 d0, .int .u32 d1, .int .u32 d2, .int .u32 d3, .bool h] 32)
  have x0 : (w.alloc (.cells #[.int .i64 k, .int .i64 c, .int .i64 l, .int .i64 t, .int .i64 o, .int .i64 e, .int .i64 w_, .int .u32 v, .int .u32 d0, .int .u32 d1, .int .u32 d2, .int .u32 d3, .bool h] 32)).cell? ⟨w.heap.size, 0, none⟩ = some (.int .i64 k) := blk_cell hb rfl
  have x3 : (w.alloc (.cells #[.int .i64 k, .int .i64 c, .int .i64 l, .int .i64 t, .int .i64 o, .int .i64 e, .int .i64 w_, .int .u32 v, .int .u32 d0, .int .u32 d1, .int .u32 d2, .int .u32 d3, .bool h] 32)).cell? ⟨w.heap.size, 3, none⟩ = some (.int .i64 t) := blk_cell hb rfl
  clear hb
  by_cases h1 : k = 13
  · subst h1
    by_cases h2 : t = 0
    · subst h2
      go_enter Tryd.func42, Tryd.ntmps42
      go_wp2
      go_ret
      exact ⟨rfl, below_alloc _ _⟩
    · by_cases h3 : t = 3
      · subst h3
        go_enter Tryd.func42, Tryd.ntmps42
        go_wp2
        go_ret
        exact ⟨rfl, below_alloc _ _⟩
      · rw [show (decide ((13 : Int) = 13) && (decide (t = 0) || decide (t = 3))) = false from by simp [h2, h3]]
        have e2 : (t == (0 : Int)) = false := by simpa using h2
        have e3 : (t == (3 : Int)) = false := by simpa using h3
        go_enter Tryd.func42, Tryd.ntmps42
        go_wp2
        go_ret
        exact ⟨rfl, below_alloc _ _⟩
  · rw [show (decide (k = 13) && (decide (t = 0) || decide (t = 3))) = false from by simp [h1]]
    go_enter Tryd.func42, Tryd.ntmps42
    go_wp2
    go_ret
    exact ⟨rfl, below_alloc _ _⟩

theorem echo_rst (s : Bool) (n : Int) (h0 : 0 ≤ n) (h1 : n ≤ 4294967295) : 0 ≤ (rst s n 0 4294967295).2 ∧ (rst s n 0 4294967295).2 ≤ 4294967295 := ⟨h0, h1⟩
theorem echo_pst (s : List Nat × Nat) (n : Int) (h0 : 0 ≤ n) (h1 : n ≤ 4294967295) : 0 ≤ (pst s n 0 4294967295).2 ∧ (pst s n 0 4294967295).2 ≤ 4294967295 := ⟨h0, h1⟩
theorem echo_gst (bs : List Nat) (s : Nat × Nat) (n : Int) : 0 ≤ (gst bs s n 0 4294967295).2 ∧ (gst bs s n 0 4294967295).2 ≤ 4294967295 := by
  have := inS_num bs 0 4294967295 s.2 s.1
  simp only [gst]
  omega

set_option maxHeartbeats 3200000 in
set_option maxRecDepth 20000 in
theorem sRight_any (m : M13) (w : World) (h32 : M32 m) (h64 : M64 m) : Calls Tryd.prog 28 #[.agg (mv m)] w fun r w' => r = .returned (.bool (rtB m)) ∧ Below w.heap.size w w' := by
  rw [← right_pure m h32]
  rcases hw : walkP rst true m with ⟨b, n⟩
  simp only
  have HU := Hid.in (fun w => sungr_any m w)
  have HE := Hid.in (fun w => eq_msg n m w)
  have HQ := Hid.in h32
  have HQ4 := Hid.in h64
  have HW := Hid.in hw
  clear hw h32 h64
  obtain ⟨k, c, l, t, o, e, w_, v, d0, d1, d2, d3, h⟩ := m
  obtain ⟨nk, nc, nl, nt, no, ne, nw, nv, nd0, nd1, nd2, nd3, nh⟩ := n
  have s1 : (w.alloc (.cells #[.int .i64 k, .int .i64 c, .int .i64 l, .int .i64 t, .int .i64 o, .int .i64 e, .int .i64 w_, .int .u32 v, .int .u32 d0, .int .u32 d1, .int .u32 d2, .int .u32 d3, .bool h] 32)).heap.size = w.heap.size + 1 := by simp
  have b2 := below_alloc (w.alloc (.cells #[.int .i64 k, .int .i64 c, .int .i64 l, .int .i64 t, .int .i64 o, .int .i64 e, .int .i64 w_, .int .u32 v, .int .u32 d0, .int .u32 d1, .int .u32 d2, .int .u32 d3, .bool h] 32)) (.cells #[.bool true] 4)
  have v2 := heap_alloc_new (w.alloc (.cells #[.int .i64 k, .int .i64 c, .int .i64 l, .int .i64 t, .int .i64 o, .int .i64 e, .int .i64 w_, .int .u32 v, .int .u32 d0, .int .u32 d1, .int .u32 d2, .int .u32 d3, .bool h] 32)) (.cells #[.bool true] 4)
  rw [s1] at v2
  have HV3 : Hid (((w.alloc (.cells #[.int .i64 k, .int .i64 c, .int .i64 l, .int .i64 t, .int .i64 o, .int .i64 e, .int .i64 w_, .int .u32 v, .int .u32 d0, .int .u32 d1, .int .u32 d2, .int .u32 d3, .bool h] 32)).alloc (.cells #[.bool true] 4)).heap[w.heap.size + 1]? = some (.cells #[.bool true] 4 (0, 0))) := Hid.in v2
  have HM3 : Hid (((w.alloc (.cells #[.int .i64 k, .int .i64 c, .int .i64 l, .int .i64 t, .int .i64 o, .int .i64 e, .int .i64 w_, .int .u32 v, .int .u32 d0, .int .u32 d1, .int .u32 d2, .int .u32 d3, .bool h] 32)).alloc (.cells #[.bool true] 4)).heap[w.heap.size]? = some (.cells #[.int .i64 k, .int .i64 c, .int .i64 l, .int .i64 t, .int .i64 o, .int .i64 e, .int .i64 w_, .int .u32 v, .int .u32 d0, .int .u32 d1, .int .u32 d2, .int .u32 d3, .bool h] 32 (0, 0))) := Hid.in (blk_step (heap_alloc_new _ _) b2)
  have HB3 : Hid (Below w.heap.size w ((w.alloc (.cells #[.int .i64 k, .int .i64 c, .int .i64 l, .int .i64 t, .int .i64 o, .int .i64 e, .int .i64 w_, .int .u32 v, .int .u32 d0, .int .u32 d1, .int .u32 d2, .int .u32 d3, .bool h] 32)).alloc (.cells #[.bool true] 4))) := Hid.in (bstep (below_alloc w _) (Nat.le_refl _) b2)
  clear b2 v2 s1
  have x0 : ((w.alloc (.cells #[.int .i64 k, .int .i64 c, .int .i64 l, .int .i64 t, .int .i64 o, .int .i64 e, .int .i64 w_, .int .u32 v, .int .u32 d0, .int .u32 d1, .int .u32 d2, .int .u32 d3, .bool h] 32)).alloc (.cells #[.bool true] 4)).cell? ⟨w.heap.size, 0, none⟩ = some (.int .i64 k) := blk_cell HM3.out rfl
  have x1 : ((w.alloc (.cells #[.int .i64 k, .int .i64 c, .int .i64 l, .int .i64 t, .int .i64 o, .int .i64 e, .int .i64 w_, .int .u32 v, .int .u32 d0, .int .u32 d1, .int .u32 d2, .int .u32 d3, .bool h] 32)).alloc (.cells #[.bool true] 4)).cell? ⟨w.heap.size, 1, none⟩ = some (.int .i64 c) := blk_cell HM3.out rfl
  have x2 : ((w.alloc (.cells #[.int .i64 k, .int .i64 c, .int .i64 l, .int .i64 t, .int .i64 o, .int .i64 e, .int .i64 w_, .int .u32 v, .int .u32 d0, .int .u32 d1, .int .u32 d2, .int .u32 d3, .bool h] 32)).alloc (.cells #[.bool true] 4)).cell? ⟨w.heap.size, 2, none⟩ = some (.int .i64 l) := blk_cell HM3.out rfl
  have x3 : ((w.alloc (.cells #[.int .i64 k, .int .i64 c, .int .i64 l, .int .i64 t, .int .i64 o, .int .i64 e, .int .i64 w_, .int .u32 v, .int .u32 d0, .int .u32 d1, .int .u32 d2, .int .u32 d3, .bool h] 32)).alloc (.cells #[.bool true] 4)).cell? ⟨w.heap.size, 3, none⟩ = some (.int .i64 t) := blk_cell HM3.out rfl
  have x4 : ((w.alloc (.cells #[.int .i64 k, .int .i64 c, .int .i64 l, .int .i64 t, .int .i64 o, .int .i64 e, .int .i64 w_, .int .u32 v, .int .u32 d0, .int .u32 d1, .int .u32 d2, .int .u32 d3, .bool h] 32)).alloc (.cells #[.bool true] 4)).cell? ⟨w.heap.size, 4, none⟩ = some (.int .i64 o) := blk_cell HM3.out rfl
  have x5 : ((w.alloc (.cells #[.int .i64 k, .int .i64 c, .int .i64 l, .int .i64 t, .int .i64 o, .int .i64 e, .int .i64 w_, .int .u32 v, .int .u32 d0, .int .u32 d1, .int .u32 d2, .int .u32 d3, .bool h] 32)).alloc (.cells #[.bool true] 4)).cell? ⟨w.heap.size, 5, none⟩ = some (.int .i64 e) := blk_cell HM3.out rfl
  have x6 : ((w.alloc (.cells #[.int .i64 k, .int .i64 c, .int .i64 l, .int .i64 t, .int .i64 o, .int .i64 e, .int .i64 w_, .int .u32 v, .int .u32 d0, .int .u32 d1, .int .u32 d2, .int .u32 d3, .bool h] 32)).alloc (.cells #[.bool true] 4)).cell? ⟨w.heap.size, 6, none⟩ = some (.int .i64 w_) := blk_cell HM3.out rfl
  have x7 : ((w.alloc (.cells #[.int .i64 k, .int .i64 c, .int .i64 l, .int .i64 t, .int .i64 o, .int .i64 e, .int .i64 w_, .int .u32 v, .int .u32 d0, .int .u32 d1, .int .u32 d2, .int .u32 d3, .bool h] 32)).alloc (.cells #[.bool true] 4)).cell? ⟨w.heap.size, 7, none⟩ = some (.int .u32 v) := blk_cell HM3.out rfl
  have x8 : ((w.alloc (.cells #[.int .i64 k, .int .i64 c, .int .i64 l, .int .i64 t, .int .i64 o, .int .i64 e, .int .i64 w_, .int .u32 v, .int .u32 d0, .int .u32 d1, .int .u32 d2, .int .u32 d3, .bool h] 32)).alloc (.cells #[.bool true] 4)).cell? ⟨w.heap.size, 8, none⟩ = some (.int .u32 d0) := blk_cell HM3.out rfl
  have x9 : ((w.alloc (.cells #[.int .i64 k, .int .i64 c, .int .i64 l, .int .i64 t, .int .i64 o, .int .i64 e, .int .i64 w_, .int .u32 v, .int .u32 d0, .int .u32 d1, .int .u32 d2, .int .u32 d3, .bool h] 32)).alloc (.cells #[.bool true] 4)).cell? ⟨w.heap.size, 9, none⟩ = some (.int .u32 d1) := blk_cell HM3.out rfl
  have x10 : ((w.alloc (.cells #[.int .i64 k, .int .i64 c, .int .i64 l, .int .i64 t, .int .i64 o, .int .i64 e, .int .i64 w_, .int .u32 v, .int .u32 d0, .int .u32 d1, .int .u32 d2, .int .u32 d3, .bool h] 32)).alloc (.cells #[.bool true] 4)).cell? ⟨w.heap.size, 10, none⟩ = some (.int .u32 d2) := blk_cell HM3.out rfl
  have x11 : ((w.alloc (.cells #[.int .i64 k, .int .i64 c, .int .i64 l, .int .i64 t, .int .i64 o, .int .i64 e, .int .i64 w_, .int .u32 v, .int .u32 d0, .int .u32 d1, .int .u32 d2, .int .u32 d3, .bool h] 32)).alloc (.cells #[.bool true] 4)).cell? ⟨w.heap.size, 11, none⟩ = some (.int .u32 d3) := blk_cell HM3.out rfl
  have x12 : ((w.alloc (.cells #[.int .i64 k, .int .i64 c, .int .i64 l, .int .i64 t, .int .i64 o, .int .i64 e, .int .i64 w_, .int .u32 v, .int .u32 d0, .int .u32 d1, .int .u32 d2, .int .u32 d3, .bool h] 32)).alloc (.cells #[.bool true] 4)).cell? ⟨w.heap.size, 12, none⟩ = some (.bool h) := blk_cell HM3.out rfl
  simp only [mv]
  go_enter Tryd.func28, Tryd.ntmps28
  go_upto_region 2 with fail
  generalize hX : ((w.alloc (.cells #[.int .i64 k, .int .i64 c, .int .i64 l, .int .i64 t, .int .i64 o, .int .i64 e, .int .i64 w_, .int .u32 v, .int .u32 d0, .int .u32 d1, .int .u32 d2, .int .u32 d3, .bool h] 32)).alloc (.cells #[.bool true] 4)) = X at *
  clear hX
  go_wp2_with fail
  have hc := swalk_any (ask_right (w.heap.size + 1)) (fun _ => False) X echo_rst true (k, c, l, t, o, e, w_, v, d0, d1, d2, d3, h) ⟨HV3.out, fun h => h⟩ (by decide) HQ.out HQ4.out
  rw [HW.out] at hc
  simp only [mv] at hc
  refine hc.mono ?_
  rintro r w4 ⟨rfl, hI, hg⟩
  have HV4 : Hid (w4.heap[w.heap.size + 1]? = some (.cells #[.bool b] 4 (0, 0))) := Hid.in hI.1
  have HM4 : Hid (w4.heap[w.heap.size]? = some (.cells #[.int .i64 k, .int .i64 c, .int .i64 l, .int .i64 t, .int .i64 o, .int .i64 e, .int .i64 w_, .int .u32 v, .int .u32 d0, .int .u32 d1, .int .u32 d2, .int .u32 d3, .bool h] 32 (0, 0))) := Hid.in ((hg.block _ (blk_lt HM3.out) (by intro e; have := Option.some.inj e; omega)).trans HM3.out)
  have HB4 : Hid (Below w.heap.size w w4) := Hid.in (wrote HB3.out hg (Nat.le_refl _) (by omega))
  clear hc hI hg x0 x1 x2 x3 x4 x5 x6 x7 x8 x9 x10 x11 x12
  have HN5 : Hid ((w4.alloc (.cells #[.int .i64 nk, .int .i64 nc, .int .i64 nl, .int .i64 nt, .int .i64 no, .int .i64 ne, .int .i64 nw, .int .u32 nv, .int .u32 nd0, .int .u32 nd1, .int .u32 nd2, .int .u32 nd3, .bool nh] 32)).heap[w4.heap.size]? = some (.cells #[.int .i64 nk, .int .i64 nc, .int .i64 nl, .int .i64 nt, .int .i64 no, .int .i64 ne, .int .i64 nw, .int .u32 nv, .int .u32 nd0, .int .u32 nd1, .int .u32 nd2, .int .u32 nd3, .bool nh] 32 (0, 0))) := Hid.in (heap_alloc_new _ _)
  have HM5 := Hid.in (blk_step HM4.out (below_alloc w4 (.cells #[.int .i64 nk, .int .i64 nc, .int .i64 nl, .int .i64 nt, .int .i64 no, .int .i64 ne, .int .i64 nw, .int .u32 nv, .int .u32 nd0, .int .u32 nd1, .int .u32 nd2, .int .u32 nd3, .bool nh] 32)))
  have HV5 := Hid.in (blk_step HV4.out (below_alloc w4 (.cells #[.int .i64 nk, .int .i64 nc, .int .i64 nl, .int .i64 nt, .int .i64 no, .int .i64 ne, .int .i64 nw, .int .u32 nv, .int .u32 nd0, .int .u32 nd1, .int .u32 nd2, .int .u32 nd3, .bool nh] 32)))
  have HB5 := Hid.in (bstep HB4.out (Nat.le_refl _) (below_alloc w4 (.cells #[.int .i64 nk, .int .i64 nc, .int .i64 nl, .int .i64 nt, .int .i64 no, .int .i64 ne, .int .i64 nw, .int .u32 nv, .int .u32 nd0, .int .u32 nd1, .int .u32 nd2, .int .u32 nd3, .bool nh] 32)))
  have q0 : (w4.alloc (.cells #[.int .i64 nk, .int .i64 nc, .int .i64 nl, .int .i64 nt, .int .i64 no, .int .i64 ne, .int .i64 nw, .int .u32 nv, .int .u32 nd0, .int .u32 nd1, .int .u32 nd2, .int .u32 nd3, .bool nh] 32)).cell? ⟨w.heap.size + 1, 0, none⟩ = some (.bool b) := blk_cell HV5.out rfl
  cases b
  · go_wp2
    go_ret
    exact ⟨rfl, HB5.out⟩
  have x0 : (w4.alloc (.cells #[.int .i64 nk, .int .i64 nc, .int .i64 nl, .int .i64 nt, .int .i64 no, .int .i64 ne, .int .i64 nw, .int .u32 nv, .int .u32 nd0, .int .u32 nd1, .int .u32 nd2, .int .u32 nd3, .bool nh] 32)).cell? ⟨w.heap.size, 0, none⟩ = some (.int .i64 k) := blk_cell HM5.out rfl
  have x1 : (w4.alloc (.cells #[.int .i64 nk, .int .i64 nc, .int .i64 nl, .int .i64 nt, .int .i64 no, .int .i64 ne, .int .i64 nw, .int .u32 nv, .int .u32 nd0, .int .u32 nd1, .int .u32 nd2, .int .u32 nd3, .bool nh] 32)).cell? ⟨w.heap.size, 1, none⟩ = some (.int .i64 c) := blk_cell HM5.out rfl
  have x2 : (w4.alloc (.cells #[.int .i64 nk, .int .i64 nc, .int .i64 nl, .int .i64 nt, .int .i64 no, .int .i64 ne, .int .i64 nw, .int .u32 nv, .int .u32 nd0, .int .u32 nd1, .int .u32 nd2, .int .u32 nd3, .bool nh] 32)).cell? ⟨w.heap.size, 2, none⟩ = some (.int .i64 l) := blk_cell HM5.out rfl
  have x3 : (w4.alloc (.cells #[.int .i64 nk, .int .i64 nc, .int .i64 nl, .int .i64 nt, .int .i64 no, .int .i64 ne, .int .i64 nw, .int .u32 nv, .int .u32 nd0, .int .u32 nd1, .int .u32 nd2, .int .u32 nd3, .bool nh] 32)).cell? ⟨w.heap.size, 3, none⟩ = some (.int .i64 t) := blk_cell HM5.out rfl
  have x4 : (w4.alloc (.cells #[.int .i64 nk, .int .i64 nc, .int .i64 nl, .int .i64 nt, .int .i64 no, .int .i64 ne, .int .i64 nw, .int .u32 nv, .int .u32 nd0, .int .u32 nd1, .int .u32 nd2, .int .u32 nd3, .bool nh] 32)).cell? ⟨w.heap.size, 4, none⟩ = some (.int .i64 o) := blk_cell HM5.out rfl
  have x5 : (w4.alloc (.cells #[.int .i64 nk, .int .i64 nc, .int .i64 nl, .int .i64 nt, .int .i64 no, .int .i64 ne, .int .i64 nw, .int .u32 nv, .int .u32 nd0, .int .u32 nd1, .int .u32 nd2, .int .u32 nd3, .bool nh] 32)).cell? ⟨w.heap.size, 5, none⟩ = some (.int .i64 e) := blk_cell HM5.out rfl
  have x6 : (w4.alloc (.cells #[.int .i64 nk, .int .i64 nc, .int .i64 nl, .int .i64 nt, .int .i64 no, .int .i64 ne, .int .i64 nw, .int .u32 nv, .int .u32 nd0, .int .u32 nd1, .int .u32 nd2, .int .u32 nd3, .bool nh] 32)).cell? ⟨w.heap.size, 6, none⟩ = some (.int .i64 w_) := blk_cell HM5.out rfl
  have x7 : (w4.alloc (.cells #[.int .i64 nk, .int .i64 nc, .int .i64 nl, .int .i64 nt, .int .i64 no, .int .i64 ne, .int .i64 nw, .int .u32 nv, .int .u32 nd0, .int .u32 nd1, .int .u32 nd2, .int .u32 nd3, .bool nh] 32)).cell? ⟨w.heap.size, 7, none⟩ = some (.int .u32 v) := blk_cell HM5.out rfl
  have x8 : (w4.alloc (.cells #[.int .i64 nk, .int .i64 nc, .int .i64 nl, .int .i64 nt, .int .i64 no, .int .i64 ne, .int .i64 nw, .int .u32 nv, .int .u32 nd0, .int .u32 nd1, .int .u32 nd2, .int .u32 nd3, .bool nh] 32)).cell? ⟨w.heap.size, 8, none⟩ = some (.int .u32 d0) := blk_cell HM5.out rfl
  have x9 : (w4.alloc (.cells #[.int .i64 nk, .int .i64 nc, .int .i64 nl, .int .i64 nt, .int .i64 no, .int .i64 ne, .int .i64 nw, .int .u32 nv, .int .u32 nd0, .int .u32 nd1, .int .u32 nd2, .int .u32 nd3, .bool nh] 32)).cell? ⟨w.heap.size, 9, none⟩ = some (.int .u32 d1) := blk_cell HM5.out rfl
  have x10 : (w4.alloc (.cells #[.int .i64 nk, .int .i64 nc, .int .i64 nl, .int .i64 nt, .int .i64 no, .int .i64 ne, .int .i64 nw, .int .u32 nv, .int .u32 nd0, .int .u32 nd1, .int .u32 nd2, .int .u32 nd3, .bool nh] 32)).cell? ⟨w.heap.size, 10, none⟩ = some (.int .u32 d2) := blk_cell HM5.out rfl
  have x11 : (w4.alloc (.cells #[.int .i64 nk, .int .i64 nc, .int .i64 nl, .int .i64 nt, .int .i64 no, .int .i64 ne, .int .i64 nw, .int .u32 nv, .int .u32 nd0, .int .u32 nd1, .int .u32 nd2, .int .u32 nd3, .bool nh] 32)).cell? ⟨w.heap.size, 11, none⟩ = some (.int .u32 d3) := blk_cell HM5.out rfl
  have x12 : (w4.alloc (.cells #[.int .i64 nk, .int .i64 nc, .int .i64 nl, .int .i64 nt, .int .i64 no, .int .i64 ne, .int .i64 nw, .int .u32 nv, .int .u32 nd0, .int .u32 nd1, .int .u32 nd2, .int .u32 nd3, .bool nh] 32)).cell? ⟨w.heap.size, 12, none⟩ = some (.bool h) := blk_cell HM5.out rfl
  have u0 : (w4.alloc (.cells #[.int .i64 nk, .int .i64 nc, .int .i64 nl, .int .i64 nt, .int .i64 no, .int .i64 ne, .int .i64 nw, .int .u32 nv, .int .u32 nd0, .int .u32 nd1, .int .u32 nd2, .int .u32 nd3, .bool nh] 32)).cell? ⟨w4.heap.size, 0, none⟩ = some (.int .i64 nk) := blk_cell HN5.out rfl
  have u1 : (w4.alloc (.cells #[.int .i64 nk, .int .i64 nc, .int .i64 nl, .int .i64 nt, .int .i64 no, .int .i64 ne, .int .i64 nw, .int .u32 nv, .int .u32 nd0, .int .u32 nd1, .int .u32 nd2, .int .u32 nd3, .bool nh] 32)).cell? ⟨w4.heap.size, 1, none⟩ = some (.int .i64 nc) := blk_cell HN5.out rfl
  have u2 : (w4.alloc (.cells #[.int .i64 nk, .int .i64 nc, .int .i64 nl, .int .i64 nt, .int .i64 no, .int .i64 ne, .int .i64 nw, .int .u32 nv, .int .u32 nd0, .int .u32 nd1, .int .u32 nd2, .int .u32 nd3, .bool nh] 32)).cell? ⟨w4.heap.size, 2, none⟩ = some (.int .i64 nl) := blk_cell HN5.out rfl
  have u3 : (w4.alloc (.cells #[.int .i64 nk, .int .i64 nc, .int .i64 nl, .int .i64 nt, .int .i64 no, .int .i64 ne, .int .i64 nw, .int .u32 nv, .int .u32 nd0, .int .u32 nd1, .int .u32 nd2, .int .u32 nd3, .bool nh] 32)).cell? ⟨w4.heap.size, 3, none⟩ = some (.int .i64 nt) := blk_cell HN5.out rfl
  have u4 : (w4.alloc (.cells #[.int .i64 nk, .int .i64 nc, .int .i64 nl, .int .i64 nt, .int .i64 no, .int .i64 ne, .int .i64 nw, .int .u32 nv, .int .u32 nd0, .int .u32 nd1, .int .u32 nd2, .int .u32 nd3, .bool nh] 32)).cell? ⟨w4.heap.size, 4, none⟩ = some (.int .i64 no) := blk_cell HN5.out rfl
  have u5 : (w4.alloc (.cells #[.int .i64 nk, .int .i64 nc, .int .i64 nl, .int .i64 nt, .int .i64 no, .int .i64 ne, .int .i64 nw, .int .u32 nv, .int .u32 nd0, .int .u32 nd1, .int .u32 nd2, .int .u32 nd3, .bool nh] 32)).cell? ⟨w4.heap.size, 5, none⟩ = some (.int .i64 ne) := blk_cell HN5.out rfl
  have u6 : (w4.alloc (.cells #[.int .i64 nk, .int .i64 nc, .int .i64 nl, .int .i64 nt, .int .i64 no, .int .i64 ne, .int .i64 nw, .int .u32 nv, .int .u32 nd0, .int .u32 nd1, .int .u32 nd2, .int .u32 nd3, .bool nh] 32)).cell? ⟨w4.heap.size, 6, none⟩ = some (.int .i64 nw) := blk_cell HN5.out rfl
  have u7 : (w4.alloc (.cells #[.int .i64 nk, .int .i64 nc, .int .i64 nl, .int .i64 nt, .int .i64 no, .int .i64 ne, .int .i64 nw, .int .u32 nv, .int .u32 nd0, .int .u32 nd1, .int .u32 nd2, .int .u32 nd3, .bool nh] 32)).cell? ⟨w4.heap.size, 7, none⟩ = some (.int .u32 nv) := blk_cell HN5.out rfl
  have u8 : (w4.alloc (.cells #[.int .i64 nk, .int .i64 nc, .int .i64 nl, .int .i64 nt, .int .i64 no, .int .i64 ne, .int .i64 nw, .int .u32 nv, .int .u32 nd0, .int .u32 nd1, .int .u32 nd2, .int .u32 nd3, .bool nh] 32)).cell? ⟨w4.heap.size, 8, none⟩ = some (.int .u32 nd0) := blk_cell HN5.out rfl
  have u9 : (w4.alloc (.cells #[.int .i64 nk, .int .i64 nc, .int .i64 nl, .int .i64 nt, .int .i64 no, .int .i64 ne, .int .i64 nw, .int .u32 nv, .int .u32 nd0, .int .u32 nd1, .int .u32 nd2, .int .u32 nd3, .bool nh] 32)).cell? ⟨w4.heap.size, 9, none⟩ = some (.int .u32 nd1) := blk_cell HN5.out rfl
  have u10 : (w4.alloc (.cells #[.int .i64 nk, .int .i64 nc, .int .i64 nl, .int .i64 nt, .int .i64 no, .int .i64 ne, .int .i64 nw, .int .u32 nv, .int .u32 nd0, .int .u32 nd1, .int .u32 nd2, .int .u32 nd3, .bool nh] 32)).cell? ⟨w4.heap.size, 10, none⟩ = some (.int .u32 nd2) := blk_cell HN5.out rfl
  have u11 : (w4.alloc (.cells #[.int .i64 nk, .int .i64 nc, .int .i64 nl, .int .i64 nt, .int .i64 no, .int .i64 ne, .int .i64 nw, .int .u32 nv, .int .u32 nd0, .int .u32 nd1, .int .u32 nd2, .int .u32 nd3, .bool nh] 32)).cell? ⟨w4.heap.size, 11, none⟩ = some (.int .u32 nd3) := blk_cell HN5.out rfl
  have u12 : (w4.alloc (.cells #[.int .i64 nk, .int .i64 nc, .int .i64 nl, .int .i64 nt, .int .i64 no, .int .i64 ne, .int .i64 nw, .int .u32 nv, .int .u32 nd0, .int .u32 nd1, .int .u32 nd2, .int .u32 nd3, .bool nh] 32)).cell? ⟨w4.heap.size, 12, none⟩ = some (.bool nh) := blk_cell HN5.out rfl
  have he := HE.out
  rcases hd : eqB (nk, nc, nl, nt, no, ne, nw, nv, nd0, nd1, nd2, nd3, nh) (k, c, l, t, o, e, w_, v, d0, d1, d2, d3, h) with _ | _
  · rw [hd] at he
    simp only [mv] at he
    go_wp2
    go_ret
    exact ⟨by rw [hd]; rfl, HB5.out⟩
  · rw [hd] at he
    simp only [mv] at he
    go_wp2_with fail
    refine (HU.out _).mono ?_
    rintro r w6 ⟨rfl, hb6⟩
    have HB6 := Hid.in (bstep HB5.out (Nat.le_refl _) hb6)
    clear hb6
    go_wp2
    go_ret
    exact ⟨by rw [hd]; rfl, HB6.out⟩

end Go.Proofs.YtakomlmbdienpaaDoor

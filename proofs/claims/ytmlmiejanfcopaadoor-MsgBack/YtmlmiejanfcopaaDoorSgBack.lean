/- DERIVED of the program: MsgBack returns true. Own work. -/
import Derived.Test.YtmlmiejanfcopaaDoorSgTwo
import Derived.Test.YtmlmiejanfcopaaDoorGenR
import Derived.Test.YtmlmiejanfcopaaDoorGenD
import Derived.Test.YtmlmiejanfcopaaDoorPkI
namespace Go.Proofs.YtmlmiejanfcopaaDoor
open Go.RowKit Go.Extern.Stop Go.Stop Go.Extern

set_option maxHeartbeats 6400000 in
set_option maxRecDepth 20000 in
theorem msgBack_no (w : World) (sa : Nat → Addr) (hE : Env10 w sa) (k c l t o e w_ v d0 d1 d2 d3 : Int) (h : Bool) (nk nc nl nt no ne nw nv nd0 nd1 nd2 nd3 : Int) (nh : Bool) (h32 : M32 (k, c, l, t, o, e, w_, v, d0, d1, d2, d3, h)) (h64 : M64 (k, c, l, t, o, e, w_, v, d0, d1, d2, d3, h)) (g32 : M32 (nk, nc, nl, nt, no, ne, nw, nv, nd0, nd1, nd2, nd3, nh)) (g64 : M64 (nk, nc, nl, nt, no, ne, nw, nv, nd0, nd1, nd2, nd3, nh)) (ab : Option Addr) (cb : Nat) (bs : List Nat) (hB : Lie w ab cb bs) (hby : ∀ x ∈ bs, x < 256) (hln : bs.length ≤ 140737488355328) (cut : Int) (hx : rtB (k, c, l, t, o, e, w_, v, d0, d1, d2, d3, h) = false) :
    Calls Tryd.prog 5 #[.agg #[.int .i64 k, .int .i64 c, .int .i64 l, .int .i64 t, .int .i64 o, .int .i64 e, .int .i64 w_, .int .u32 v, .int .u32 d0, .int .u32 d1, .int .u32 d2, .int .u32 d3, .bool h], .agg #[.int .i64 nk, .int .i64 nc, .int .i64 nl, .int .i64 nt, .int .i64 no, .int .i64 ne, .int .i64 nw, .int .u32 nv, .int .u32 nd0, .int .u32 nd1, .int .u32 nd2, .int .u32 nd3, .bool nh], .slice ab bs.length cb, .int .i64 cut] w fun r w' => r = .returned (.bool true) ∧ Below w.heap.size w w' := by
  have HX := Hid.in hx
  clear hx
  have HE := Hid.in hE
  have H32 := Hid.in h32
  have H64 := Hid.in h64
  have G32 := Hid.in g32
  have G64 := Hid.in g64
  have HLB := Hid.in hB
  have HBY := Hid.in hby
  clear hE h32 h64 g32 g64 hB hby
  have HS0 : Hid (SM2 w #[.int .i64 k, .int .i64 c, .int .i64 l, .int .i64 t, .int .i64 o, .int .i64 e, .int .i64 w_, .int .u32 v, .int .u32 d0, .int .u32 d1, .int .u32 d2, .int .u32 d3, .bool h] #[.int .i64 nk, .int .i64 nc, .int .i64 nl, .int .i64 nt, .int .i64 no, .int .i64 ne, .int .i64 nw, .int .u32 nv, .int .u32 nd0, .int .u32 nd1, .int .u32 nd2, .int .u32 nd3, .bool nh] ((w.alloc (.cells #[.int .i64 k, .int .i64 c, .int .i64 l, .int .i64 t, .int .i64 o, .int .i64 e, .int .i64 w_, .int .u32 v, .int .u32 d0, .int .u32 d1, .int .u32 d2, .int .u32 d3, .bool h] 28)).alloc (.cells #[.int .i64 nk, .int .i64 nc, .int .i64 nl, .int .i64 nt, .int .i64 no, .int .i64 ne, .int .i64 nw, .int .u32 nv, .int .u32 nd0, .int .u32 nd1, .int .u32 nd2, .int .u32 nd3, .bool nh] 28))) := Hid.in (SM2.start _ _ _)
  have HLB0 := Hid.in (HLB.out.step HS0.out.be)
  rcases hg : gotM bs with ⟨cg, xg⟩
  have HG := Hid.in hg
  clear hg
  have hget := fun W hE2 hL2 => sGet_any ab bs.length cb bs W sa hE2 rfl hL2 HBY.out hln
  rw [HG.out] at hget
  obtain ⟨xk, xc, xl, xt, xo, xe, xw, xv, xd0, xd1, xd2, xd3, xh⟩ := xg
  simp only [mv] at hget
  have HGET := Hid.in hget
  clear hget
  go_enter Tryd.func5, Tryd.ntmps5
  go_upto_region 1 with fail
  generalize hX : ((w.alloc (.cells #[.int .i64 k, .int .i64 c, .int .i64 l, .int .i64 t, .int .i64 o, .int .i64 e, .int .i64 w_, .int .u32 v, .int .u32 d0, .int .u32 d1, .int .u32 d2, .int .u32 d3, .bool h] 28)).alloc (.cells #[.int .i64 nk, .int .i64 nc, .int .i64 nl, .int .i64 nt, .int .i64 no, .int .i64 ne, .int .i64 nw, .int .u32 nv, .int .u32 nd0, .int .u32 nd1, .int .u32 nd2, .int .u32 nd3, .bool nh] 28)) = W0 at *
  clear hX
  go_wp2_with fail
  refine (HGET.out _ (HE.out.below HS0.out.be) HLB0.out).mono ?_
  rintro r w1 ⟨l1, rfl, hb, hcc⟩
  obtain ⟨e1, he1⟩ : ∃ e1, gErr sa l1 cg = e1 := ⟨_, rfl⟩
  rw [he1]
  have HE1 := Hid.in he1
  have hb2 := bstep hb (Nat.le_refl _) (below_alloc w1 (.cells #[.int .i64 xk, .int .i64 xc, .int .i64 xl, .int .i64 xt, .int .i64 xo, .int .i64 xe, .int .i64 xw, .int .u32 xv, .int .u32 xd0, .int .u32 xd1, .int .u32 xd2, .int .u32 xd3, .bool xh] 28))
  have HS2 := Hid.in (HS0.out.step hb2)
  have HLB2 := Hid.in (HLB0.out.step hb2)
  have HX2 : Hid ((w1.alloc (.cells #[.int .i64 xk, .int .i64 xc, .int .i64 xl, .int .i64 xt, .int .i64 xo, .int .i64 xe, .int .i64 xw, .int .u32 xv, .int .u32 xd0, .int .u32 xd1, .int .u32 xd2, .int .u32 xd3, .bool xh] 28)).heap[w1.heap.size]? = some (.cells #[.int .i64 xk, .int .i64 xc, .int .i64 xl, .int .i64 xt, .int .i64 xo, .int .i64 xe, .int .i64 xw, .int .u32 xv, .int .u32 xd0, .int .u32 xd1, .int .u32 xd2, .int .u32 xd3, .bool xh] 28 (0, 0))) := Hid.in (heap_alloc_new _ _)
  clear hb hb2 he1 hcc HGET HS0 HLB0
  go_upto_region 2 with fail
  generalize hX : w1.alloc (.cells #[.int .i64 xk, .int .i64 xc, .int .i64 xl, .int .i64 xt, .int .i64 xo, .int .i64 xe, .int .i64 xw, .int .u32 xv, .int .u32 xd0, .int .u32 xd1, .int .u32 xd2, .int .u32 xd3, .bool xh] 28) = w2 at *
  clear hX
  go_cut [29] (fun x we => x = .bool false ∧ SM2 w #[.int .i64 k, .int .i64 c, .int .i64 l, .int .i64 t, .int .i64 o, .int .i64 e, .int .i64 w_, .int .u32 v, .int .u32 d0, .int .u32 d1, .int .u32 d2, .int .u32 d3, .bool h] #[.int .i64 nk, .int .i64 nc, .int .i64 nl, .int .i64 nt, .int .i64 no, .int .i64 ne, .int .i64 nw, .int .u32 nv, .int .u32 nd0, .int .u32 nd1, .int .u32 nd2, .int .u32 nd3, .bool nh] we)
  case first =>
    by_cases hc : cg = 0
    · subst hc
      rw [gErr_zero] at HE1
      obtain rfl := HE1.out
      obtain ⟨o1, o2, o3, o4⟩ := gotM_ok HG.out HBY.out
      have O1 := Hid.in o1
      have O4 := Hid.in o4
      have hp := sPut_ok (xk, xc, xl, xt, xo, xe, xw, xv, xd0, xd1, xd2, xd3, xh) w2 o2 o1
      rw [← o4] at hp
      simp only [mv] at hp
      have HP := Hid.in hp
      clear hp o1 o2 o3 o4
      have x0 : w2.cell? ⟨w1.heap.size, 0, none⟩ = some (.int .i64 xk) := blk_cell HX2.out rfl
      have x1 : w2.cell? ⟨w1.heap.size, 1, none⟩ = some (.int .i64 xc) := blk_cell HX2.out rfl
      have x2 : w2.cell? ⟨w1.heap.size, 2, none⟩ = some (.int .i64 xl) := blk_cell HX2.out rfl
      have x3 : w2.cell? ⟨w1.heap.size, 3, none⟩ = some (.int .i64 xt) := blk_cell HX2.out rfl
      have x4 : w2.cell? ⟨w1.heap.size, 4, none⟩ = some (.int .i64 xo) := blk_cell HX2.out rfl
      have x5 : w2.cell? ⟨w1.heap.size, 5, none⟩ = some (.int .i64 xe) := blk_cell HX2.out rfl
      have x6 : w2.cell? ⟨w1.heap.size, 6, none⟩ = some (.int .i64 xw) := blk_cell HX2.out rfl
      have x7 : w2.cell? ⟨w1.heap.size, 7, none⟩ = some (.int .u32 xv) := blk_cell HX2.out rfl
      have x8 : w2.cell? ⟨w1.heap.size, 8, none⟩ = some (.int .u32 xd0) := blk_cell HX2.out rfl
      have x9 : w2.cell? ⟨w1.heap.size, 9, none⟩ = some (.int .u32 xd1) := blk_cell HX2.out rfl
      have x10 : w2.cell? ⟨w1.heap.size, 10, none⟩ = some (.int .u32 xd2) := blk_cell HX2.out rfl
      have x11 : w2.cell? ⟨w1.heap.size, 11, none⟩ = some (.int .u32 xd3) := blk_cell HX2.out rfl
      have x12 : w2.cell? ⟨w1.heap.size, 12, none⟩ = some (.bool xh) := blk_cell HX2.out rfl
      go_wp2_with fail
      refine HP.out.mono ?_
      rintro r w3 ⟨a3, M3, c3, rfl, hM3, hL3, hb3⟩
      have hsm := same_any a3 ab M3 bs.length c3 cb bs bs w3 hM3 rfl hL3 (HLB2.out.step hb3) (by omega)
      rw [show decide (bs = bs) = true from decide_eq_true rfl] at hsm
      have HSM := Hid.in hsm
      have HS3 := Hid.in (HS2.out.step hb3)
      clear hM3 hL3 hb3 hsm
      clear x0 x1 x2 x3 x4 x5 x6 x7 x8 x9 x10 x11 x12
      go_wp2_with fail
      refine HSM.out.mono ?_
      rintro r w4 ⟨rfl, hb4⟩
      have HS4 := Hid.in (HS3.out.step hb4)
      clear hb4 HSM
      go_wp2
      go_meet
      case rel => exact ⟨rfl, HS4.out⟩
    · rw [gErr_ne _ _ _ hc] at HE1
      clear hc
      obtain rfl := HE1.out
      go_wp2
      go_meet
      case rel => exact ⟨rfl, HS2.out⟩
  case rest =>
    obtain ⟨rfl, hcs⟩ := hcut
    rename World => w5
    have HS5 := Hid.in hcs
    clear hcs HX2 HE1 HG HS2 HLB2
    have x0 : w5.cell? ⟨w.heap.size, 0, none⟩ = some (.int .i64 k) := blk_cell HS5.out.bA rfl
    have x1 : w5.cell? ⟨w.heap.size, 1, none⟩ = some (.int .i64 c) := blk_cell HS5.out.bA rfl
    have x2 : w5.cell? ⟨w.heap.size, 2, none⟩ = some (.int .i64 l) := blk_cell HS5.out.bA rfl
    have x3 : w5.cell? ⟨w.heap.size, 3, none⟩ = some (.int .i64 t) := blk_cell HS5.out.bA rfl
    have x4 : w5.cell? ⟨w.heap.size, 4, none⟩ = some (.int .i64 o) := blk_cell HS5.out.bA rfl
    have x5 : w5.cell? ⟨w.heap.size, 5, none⟩ = some (.int .i64 e) := blk_cell HS5.out.bA rfl
    have x6 : w5.cell? ⟨w.heap.size, 6, none⟩ = some (.int .i64 w_) := blk_cell HS5.out.bA rfl
    have x7 : w5.cell? ⟨w.heap.size, 7, none⟩ = some (.int .u32 v) := blk_cell HS5.out.bA rfl
    have x8 : w5.cell? ⟨w.heap.size, 8, none⟩ = some (.int .u32 d0) := blk_cell HS5.out.bA rfl
    have x9 : w5.cell? ⟨w.heap.size, 9, none⟩ = some (.int .u32 d1) := blk_cell HS5.out.bA rfl
    have x10 : w5.cell? ⟨w.heap.size, 10, none⟩ = some (.int .u32 d2) := blk_cell HS5.out.bA rfl
    have x11 : w5.cell? ⟨w.heap.size, 11, none⟩ = some (.int .u32 d3) := blk_cell HS5.out.bA rfl
    have x12 : w5.cell? ⟨w.heap.size, 12, none⟩ = some (.bool h) := blk_cell HS5.out.bA rfl
    have hp := sPut_any (k, c, l, t, o, e, w_, v, d0, d1, d2, d3, h) w5 H32.out H64.out
    rw [if_neg (by rw [HX.out]; decide)] at hp
    simp only [mv] at hp
    go_wp2_with fail
    refine hp.mono ?_
    rintro r w6 ⟨a1, M1, c1, rfl, hM, hL, hb⟩
    obtain rfl : M1 = 0 := hM
    clear hL hp
    clear x0 x1 x2 x3 x4 x5 x6 x7 x8 x9 x10 x11 x12
    have HS6 := Hid.in (HS5.out.step hb)
    clear hb
    have x0 : w6.cell? ⟨w.heap.size, 0, none⟩ = some (.int .i64 k) := blk_cell HS6.out.bA rfl
    have x1 : w6.cell? ⟨w.heap.size, 1, none⟩ = some (.int .i64 c) := blk_cell HS6.out.bA rfl
    have x2 : w6.cell? ⟨w.heap.size, 2, none⟩ = some (.int .i64 l) := blk_cell HS6.out.bA rfl
    have x3 : w6.cell? ⟨w.heap.size, 3, none⟩ = some (.int .i64 t) := blk_cell HS6.out.bA rfl
    have x4 : w6.cell? ⟨w.heap.size, 4, none⟩ = some (.int .i64 o) := blk_cell HS6.out.bA rfl
    have x5 : w6.cell? ⟨w.heap.size, 5, none⟩ = some (.int .i64 e) := blk_cell HS6.out.bA rfl
    have x6 : w6.cell? ⟨w.heap.size, 6, none⟩ = some (.int .i64 w_) := blk_cell HS6.out.bA rfl
    have x7 : w6.cell? ⟨w.heap.size, 7, none⟩ = some (.int .u32 v) := blk_cell HS6.out.bA rfl
    have x8 : w6.cell? ⟨w.heap.size, 8, none⟩ = some (.int .u32 d0) := blk_cell HS6.out.bA rfl
    have x9 : w6.cell? ⟨w.heap.size, 9, none⟩ = some (.int .u32 d1) := blk_cell HS6.out.bA rfl
    have x10 : w6.cell? ⟨w.heap.size, 10, none⟩ = some (.int .u32 d2) := blk_cell HS6.out.bA rfl
    have x11 : w6.cell? ⟨w.heap.size, 11, none⟩ = some (.int .u32 d3) := blk_cell HS6.out.bA rfl
    have x12 : w6.cell? ⟨w.heap.size, 12, none⟩ = some (.bool h) := blk_cell HS6.out.bA rfl
    have hr := sRight_any (k, c, l, t, o, e, w_, v, d0, d1, d2, d3, h) w6 H32.out H64.out
    rw [HX.out] at hr
    simp only [mv] at hr
    go_wp2_with fail
    refine hr.mono ?_
    rintro r w7 ⟨rfl, hb⟩
    clear hr
    clear x0 x1 x2 x3 x4 x5 x6 x7 x8 x9 x10 x11 x12
    have HS7 := Hid.in (HS6.out.step hb)
    clear hb
    have x0 : w7.cell? ⟨w.heap.size, 0, none⟩ = some (.int .i64 k) := blk_cell HS7.out.bA rfl
    have x1 : w7.cell? ⟨w.heap.size, 1, none⟩ = some (.int .i64 c) := blk_cell HS7.out.bA rfl
    have x2 : w7.cell? ⟨w.heap.size, 2, none⟩ = some (.int .i64 l) := blk_cell HS7.out.bA rfl
    have x3 : w7.cell? ⟨w.heap.size, 3, none⟩ = some (.int .i64 t) := blk_cell HS7.out.bA rfl
    have x4 : w7.cell? ⟨w.heap.size, 4, none⟩ = some (.int .i64 o) := blk_cell HS7.out.bA rfl
    have x5 : w7.cell? ⟨w.heap.size, 5, none⟩ = some (.int .i64 e) := blk_cell HS7.out.bA rfl
    have x6 : w7.cell? ⟨w.heap.size, 6, none⟩ = some (.int .i64 w_) := blk_cell HS7.out.bA rfl
    have x7 : w7.cell? ⟨w.heap.size, 7, none⟩ = some (.int .u32 v) := blk_cell HS7.out.bA rfl
    have x8 : w7.cell? ⟨w.heap.size, 8, none⟩ = some (.int .u32 d0) := blk_cell HS7.out.bA rfl
    have x9 : w7.cell? ⟨w.heap.size, 9, none⟩ = some (.int .u32 d1) := blk_cell HS7.out.bA rfl
    have x10 : w7.cell? ⟨w.heap.size, 10, none⟩ = some (.int .u32 d2) := blk_cell HS7.out.bA rfl
    have x11 : w7.cell? ⟨w.heap.size, 11, none⟩ = some (.int .u32 d3) := blk_cell HS7.out.bA rfl
    have x12 : w7.cell? ⟨w.heap.size, 12, none⟩ = some (.bool h) := blk_cell HS7.out.bA rfl
    have hr := sRight_any (k, c, l, t, o, e, w_, v, d0, d1, d2, d3, h) w7 H32.out H64.out
    rw [HX.out] at hr
    simp only [mv] at hr
    go_wp2_with fail
    refine hr.mono ?_
    rintro r w8 ⟨rfl, hb⟩
    clear hr
    clear x0 x1 x2 x3 x4 x5 x6 x7 x8 x9 x10 x11 x12
    have HS8 := Hid.in (HS7.out.step hb)
    clear hb
    go_wp2_with fail
    refine (msgRuns_any _ sa (HE.out.below HS8.out.be)).mono ?_
    rintro r w9 ⟨rfl, hb⟩
    have HS9 := Hid.in (HS8.out.step hb)
    clear hb
    go_wp2
    go_ret
    exact ⟨rfl, HS9.out.be⟩

set_option maxHeartbeats 6400000 in
set_option maxRecDepth 20000 in
theorem msgBack_yn (w : World) (sa : Nat → Addr) (hE : Env10 w sa) (k c l t o e w_ v d0 d1 d2 d3 : Int) (h : Bool) (nk nc nl nt no ne nw nv nd0 nd1 nd2 nd3 : Int) (nh : Bool) (h32 : M32 (k, c, l, t, o, e, w_, v, d0, d1, d2, d3, h)) (h64 : M64 (k, c, l, t, o, e, w_, v, d0, d1, d2, d3, h)) (g32 : M32 (nk, nc, nl, nt, no, ne, nw, nv, nd0, nd1, nd2, nd3, nh)) (g64 : M64 (nk, nc, nl, nt, no, ne, nw, nv, nd0, nd1, nd2, nd3, nh)) (ab : Option Addr) (cb : Nat) (bs : List Nat) (hB : Lie w ab cb bs) (hby : ∀ x ∈ bs, x < 256) (hln : bs.length ≤ 140737488355328) (cut : Int) (hx : rtB (k, c, l, t, o, e, w_, v, d0, d1, d2, d3, h) = true) (hy : rtB (nk, nc, nl, nt, no, ne, nw, nv, nd0, nd1, nd2, nd3, nh) = false) :
    Calls Tryd.prog 5 #[.agg #[.int .i64 k, .int .i64 c, .int .i64 l, .int .i64 t, .int .i64 o, .int .i64 e, .int .i64 w_, .int .u32 v, .int .u32 d0, .int .u32 d1, .int .u32 d2, .int .u32 d3, .bool h], .agg #[.int .i64 nk, .int .i64 nc, .int .i64 nl, .int .i64 nt, .int .i64 no, .int .i64 ne, .int .i64 nw, .int .u32 nv, .int .u32 nd0, .int .u32 nd1, .int .u32 nd2, .int .u32 nd3, .bool nh], .slice ab bs.length cb, .int .i64 cut] w fun r w' => r = .returned (.bool true) ∧ Below w.heap.size w w' := by
  have HX := Hid.in hx
  have HY := Hid.in hy
  clear hx hy
  have HE := Hid.in hE
  have H32 := Hid.in h32
  have H64 := Hid.in h64
  have G32 := Hid.in g32
  have G64 := Hid.in g64
  have HLB := Hid.in hB
  have HBY := Hid.in hby
  clear hE h32 h64 g32 g64 hB hby
  have HS0 : Hid (SM2 w #[.int .i64 k, .int .i64 c, .int .i64 l, .int .i64 t, .int .i64 o, .int .i64 e, .int .i64 w_, .int .u32 v, .int .u32 d0, .int .u32 d1, .int .u32 d2, .int .u32 d3, .bool h] #[.int .i64 nk, .int .i64 nc, .int .i64 nl, .int .i64 nt, .int .i64 no, .int .i64 ne, .int .i64 nw, .int .u32 nv, .int .u32 nd0, .int .u32 nd1, .int .u32 nd2, .int .u32 nd3, .bool nh] ((w.alloc (.cells #[.int .i64 k, .int .i64 c, .int .i64 l, .int .i64 t, .int .i64 o, .int .i64 e, .int .i64 w_, .int .u32 v, .int .u32 d0, .int .u32 d1, .int .u32 d2, .int .u32 d3, .bool h] 28)).alloc (.cells #[.int .i64 nk, .int .i64 nc, .int .i64 nl, .int .i64 nt, .int .i64 no, .int .i64 ne, .int .i64 nw, .int .u32 nv, .int .u32 nd0, .int .u32 nd1, .int .u32 nd2, .int .u32 nd3, .bool nh] 28))) := Hid.in (SM2.start _ _ _)
  have HLB0 := Hid.in (HLB.out.step HS0.out.be)
  rcases hg : gotM bs with ⟨cg, xg⟩
  have HG := Hid.in hg
  clear hg
  have hget := fun W hE2 hL2 => sGet_any ab bs.length cb bs W sa hE2 rfl hL2 HBY.out hln
  rw [HG.out] at hget
  obtain ⟨xk, xc, xl, xt, xo, xe, xw, xv, xd0, xd1, xd2, xd3, xh⟩ := xg
  simp only [mv] at hget
  have HGET := Hid.in hget
  clear hget
  go_enter Tryd.func5, Tryd.ntmps5
  go_upto_region 1 with fail
  generalize hX : ((w.alloc (.cells #[.int .i64 k, .int .i64 c, .int .i64 l, .int .i64 t, .int .i64 o, .int .i64 e, .int .i64 w_, .int .u32 v, .int .u32 d0, .int .u32 d1, .int .u32 d2, .int .u32 d3, .bool h] 28)).alloc (.cells #[.int .i64 nk, .int .i64 nc, .int .i64 nl, .int .i64 nt, .int .i64 no, .int .i64 ne, .int .i64 nw, .int .u32 nv, .int .u32 nd0, .int .u32 nd1, .int .u32 nd2, .int .u32 nd3, .bool nh] 28)) = W0 at *
  clear hX
  go_wp2_with fail
  refine (HGET.out _ (HE.out.below HS0.out.be) HLB0.out).mono ?_
  rintro r w1 ⟨l1, rfl, hb, hcc⟩
  obtain ⟨e1, he1⟩ : ∃ e1, gErr sa l1 cg = e1 := ⟨_, rfl⟩
  rw [he1]
  have HE1 := Hid.in he1
  have hb2 := bstep hb (Nat.le_refl _) (below_alloc w1 (.cells #[.int .i64 xk, .int .i64 xc, .int .i64 xl, .int .i64 xt, .int .i64 xo, .int .i64 xe, .int .i64 xw, .int .u32 xv, .int .u32 xd0, .int .u32 xd1, .int .u32 xd2, .int .u32 xd3, .bool xh] 28))
  have HS2 := Hid.in (HS0.out.step hb2)
  have HLB2 := Hid.in (HLB0.out.step hb2)
  have HX2 : Hid ((w1.alloc (.cells #[.int .i64 xk, .int .i64 xc, .int .i64 xl, .int .i64 xt, .int .i64 xo, .int .i64 xe, .int .i64 xw, .int .u32 xv, .int .u32 xd0, .int .u32 xd1, .int .u32 xd2, .int .u32 xd3, .bool xh] 28)).heap[w1.heap.size]? = some (.cells #[.int .i64 xk, .int .i64 xc, .int .i64 xl, .int .i64 xt, .int .i64 xo, .int .i64 xe, .int .i64 xw, .int .u32 xv, .int .u32 xd0, .int .u32 xd1, .int .u32 xd2, .int .u32 xd3, .bool xh] 28 (0, 0))) := Hid.in (heap_alloc_new _ _)
  clear hb hb2 he1 hcc HGET HS0 HLB0
  go_upto_region 2 with fail
  generalize hX : w1.alloc (.cells #[.int .i64 xk, .int .i64 xc, .int .i64 xl, .int .i64 xt, .int .i64 xo, .int .i64 xe, .int .i64 xw, .int .u32 xv, .int .u32 xd0, .int .u32 xd1, .int .u32 xd2, .int .u32 xd3, .bool xh] 28) = w2 at *
  clear hX
  go_cut [29] (fun x we => x = .bool false ∧ SM2 w #[.int .i64 k, .int .i64 c, .int .i64 l, .int .i64 t, .int .i64 o, .int .i64 e, .int .i64 w_, .int .u32 v, .int .u32 d0, .int .u32 d1, .int .u32 d2, .int .u32 d3, .bool h] #[.int .i64 nk, .int .i64 nc, .int .i64 nl, .int .i64 nt, .int .i64 no, .int .i64 ne, .int .i64 nw, .int .u32 nv, .int .u32 nd0, .int .u32 nd1, .int .u32 nd2, .int .u32 nd3, .bool nh] we)
  case first =>
    by_cases hc : cg = 0
    · subst hc
      rw [gErr_zero] at HE1
      obtain rfl := HE1.out
      obtain ⟨o1, o2, o3, o4⟩ := gotM_ok HG.out HBY.out
      have O1 := Hid.in o1
      have O4 := Hid.in o4
      have hp := sPut_ok (xk, xc, xl, xt, xo, xe, xw, xv, xd0, xd1, xd2, xd3, xh) w2 o2 o1
      rw [← o4] at hp
      simp only [mv] at hp
      have HP := Hid.in hp
      clear hp o1 o2 o3 o4
      have x0 : w2.cell? ⟨w1.heap.size, 0, none⟩ = some (.int .i64 xk) := blk_cell HX2.out rfl
      have x1 : w2.cell? ⟨w1.heap.size, 1, none⟩ = some (.int .i64 xc) := blk_cell HX2.out rfl
      have x2 : w2.cell? ⟨w1.heap.size, 2, none⟩ = some (.int .i64 xl) := blk_cell HX2.out rfl
      have x3 : w2.cell? ⟨w1.heap.size, 3, none⟩ = some (.int .i64 xt) := blk_cell HX2.out rfl
      have x4 : w2.cell? ⟨w1.heap.size, 4, none⟩ = some (.int .i64 xo) := blk_cell HX2.out rfl
      have x5 : w2.cell? ⟨w1.heap.size, 5, none⟩ = some (.int .i64 xe) := blk_cell HX2.out rfl
      have x6 : w2.cell? ⟨w1.heap.size, 6, none⟩ = some (.int .i64 xw) := blk_cell HX2.out rfl
      have x7 : w2.cell? ⟨w1.heap.size, 7, none⟩ = some (.int .u32 xv) := blk_cell HX2.out rfl
      have x8 : w2.cell? ⟨w1.heap.size, 8, none⟩ = some (.int .u32 xd0) := blk_cell HX2.out rfl
      have x9 : w2.cell? ⟨w1.heap.size, 9, none⟩ = some (.int .u32 xd1) := blk_cell HX2.out rfl
      have x10 : w2.cell? ⟨w1.heap.size, 10, none⟩ = some (.int .u32 xd2) := blk_cell HX2.out rfl
      have x11 : w2.cell? ⟨w1.heap.size, 11, none⟩ = some (.int .u32 xd3) := blk_cell HX2.out rfl
      have x12 : w2.cell? ⟨w1.heap.size, 12, none⟩ = some (.bool xh) := blk_cell HX2.out rfl
      go_wp2_with fail
      refine HP.out.mono ?_
      rintro r w3 ⟨a3, M3, c3, rfl, hM3, hL3, hb3⟩
      have hsm := same_any a3 ab M3 bs.length c3 cb bs bs w3 hM3 rfl hL3 (HLB2.out.step hb3) (by omega)
      rw [show decide (bs = bs) = true from decide_eq_true rfl] at hsm
      have HSM := Hid.in hsm
      have HS3 := Hid.in (HS2.out.step hb3)
      clear hM3 hL3 hb3 hsm
      clear x0 x1 x2 x3 x4 x5 x6 x7 x8 x9 x10 x11 x12
      go_wp2_with fail
      refine HSM.out.mono ?_
      rintro r w4 ⟨rfl, hb4⟩
      have HS4 := Hid.in (HS3.out.step hb4)
      clear hb4 HSM
      go_wp2
      go_meet
      case rel => exact ⟨rfl, HS4.out⟩
    · rw [gErr_ne _ _ _ hc] at HE1
      clear hc
      obtain rfl := HE1.out
      go_wp2
      go_meet
      case rel => exact ⟨rfl, HS2.out⟩
  case rest =>
    obtain ⟨rfl, hcs⟩ := hcut
    rename World => w5
    have HS5 := Hid.in hcs
    clear hcs HX2 HE1 HG HS2 HLB2
    have x0 : w5.cell? ⟨w.heap.size, 0, none⟩ = some (.int .i64 k) := blk_cell HS5.out.bA rfl
    have x1 : w5.cell? ⟨w.heap.size, 1, none⟩ = some (.int .i64 c) := blk_cell HS5.out.bA rfl
    have x2 : w5.cell? ⟨w.heap.size, 2, none⟩ = some (.int .i64 l) := blk_cell HS5.out.bA rfl
    have x3 : w5.cell? ⟨w.heap.size, 3, none⟩ = some (.int .i64 t) := blk_cell HS5.out.bA rfl
    have x4 : w5.cell? ⟨w.heap.size, 4, none⟩ = some (.int .i64 o) := blk_cell HS5.out.bA rfl
    have x5 : w5.cell? ⟨w.heap.size, 5, none⟩ = some (.int .i64 e) := blk_cell HS5.out.bA rfl
    have x6 : w5.cell? ⟨w.heap.size, 6, none⟩ = some (.int .i64 w_) := blk_cell HS5.out.bA rfl
    have x7 : w5.cell? ⟨w.heap.size, 7, none⟩ = some (.int .u32 v) := blk_cell HS5.out.bA rfl
    have x8 : w5.cell? ⟨w.heap.size, 8, none⟩ = some (.int .u32 d0) := blk_cell HS5.out.bA rfl
    have x9 : w5.cell? ⟨w.heap.size, 9, none⟩ = some (.int .u32 d1) := blk_cell HS5.out.bA rfl
    have x10 : w5.cell? ⟨w.heap.size, 10, none⟩ = some (.int .u32 d2) := blk_cell HS5.out.bA rfl
    have x11 : w5.cell? ⟨w.heap.size, 11, none⟩ = some (.int .u32 d3) := blk_cell HS5.out.bA rfl
    have x12 : w5.cell? ⟨w.heap.size, 12, none⟩ = some (.bool h) := blk_cell HS5.out.bA rfl
    have hp := sPut_any (k, c, l, t, o, e, w_, v, d0, d1, d2, d3, h) w5 H32.out H64.out
    rw [if_pos HX.out] at hp
    simp only [mv] at hp
    go_wp2_with fail
    refine hp.mono ?_
    rintro r w6 ⟨a1, M1, c1, rfl, hM, hL, hb⟩
    have E1 := Hid.in hM
    have HL1 := Hid.in hL
    have m1 : 1 ≤ M1 ∧ M1 ≤ 110 := by rw [hM]; exact ⟨(encM_len _ H32.out H64.out).2, (encM_len _ H32.out H64.out).1⟩
    obtain ⟨m10, m11⟩ := m1
    have m1' : ¬ ((M1 : Int) = 0) := by omega
    have m1b : ((M1 : Int) == 0) = false := by simpa using m1'
    clear hM hL hp
    clear x0 x1 x2 x3 x4 x5 x6 x7 x8 x9 x10 x11 x12
    have HS6 := Hid.in (HS5.out.step hb)
    clear hb
    have x0 : w6.cell? ⟨w.heap.size, 0, none⟩ = some (.int .i64 k) := blk_cell HS6.out.bA rfl
    have x1 : w6.cell? ⟨w.heap.size, 1, none⟩ = some (.int .i64 c) := blk_cell HS6.out.bA rfl
    have x2 : w6.cell? ⟨w.heap.size, 2, none⟩ = some (.int .i64 l) := blk_cell HS6.out.bA rfl
    have x3 : w6.cell? ⟨w.heap.size, 3, none⟩ = some (.int .i64 t) := blk_cell HS6.out.bA rfl
    have x4 : w6.cell? ⟨w.heap.size, 4, none⟩ = some (.int .i64 o) := blk_cell HS6.out.bA rfl
    have x5 : w6.cell? ⟨w.heap.size, 5, none⟩ = some (.int .i64 e) := blk_cell HS6.out.bA rfl
    have x6 : w6.cell? ⟨w.heap.size, 6, none⟩ = some (.int .i64 w_) := blk_cell HS6.out.bA rfl
    have x7 : w6.cell? ⟨w.heap.size, 7, none⟩ = some (.int .u32 v) := blk_cell HS6.out.bA rfl
    have x8 : w6.cell? ⟨w.heap.size, 8, none⟩ = some (.int .u32 d0) := blk_cell HS6.out.bA rfl
    have x9 : w6.cell? ⟨w.heap.size, 9, none⟩ = some (.int .u32 d1) := blk_cell HS6.out.bA rfl
    have x10 : w6.cell? ⟨w.heap.size, 10, none⟩ = some (.int .u32 d2) := blk_cell HS6.out.bA rfl
    have x11 : w6.cell? ⟨w.heap.size, 11, none⟩ = some (.int .u32 d3) := blk_cell HS6.out.bA rfl
    have x12 : w6.cell? ⟨w.heap.size, 12, none⟩ = some (.bool h) := blk_cell HS6.out.bA rfl
    have hr := sRight_any (k, c, l, t, o, e, w_, v, d0, d1, d2, d3, h) w6 H32.out H64.out
    rw [HX.out] at hr
    simp only [mv] at hr
    go_wp2_with fail
    refine hr.mono ?_
    rintro r w7 ⟨rfl, hb⟩
    clear hr
    clear x0 x1 x2 x3 x4 x5 x6 x7 x8 x9 x10 x11 x12
    have HS7 := Hid.in (HS6.out.step hb)
    have HLx := Hid.in (HL1.out.step hb)
    clear HL1
    have HL1 := HLx
    clear HLx
    clear hb
    have hg1 := fun WW hE2 hL2 => sGet_any a1 M1 c1 (encM (k, c, l, t, o, e, w_, v, d0, d1, d2, d3, h)) WW sa hE2 E1.out hL2 (encM_byte _) (by rw [← E1.out]; omega)
    rw [gotM_enc _ H32.out ((rtB_iff _).1 HX.out)] at hg1
    simp only [mv, gErr_zero] at hg1
    have HG1 := Hid.in hg1
    clear hg1
    go_wp2_with fail
    refine (HG1.out _ (HE.out.below HS7.out.be) HL1.out).mono ?_
    rintro r w11 ⟨_, rfl, hb, _⟩
    have hb2 := bstep hb (Nat.le_refl _) (below_alloc w11 (.cells #[.int .i64 k, .int .i64 c, .int .i64 l, .int .i64 t, .int .i64 o, .int .i64 e, .int .i64 w_, .int .u32 v, .int .u32 d0, .int .u32 d1, .int .u32 d2, .int .u32 d3, .bool h] 28))
    have HS12 : Hid (SM3 w #[.int .i64 k, .int .i64 c, .int .i64 l, .int .i64 t, .int .i64 o, .int .i64 e, .int .i64 w_, .int .u32 v, .int .u32 d0, .int .u32 d1, .int .u32 d2, .int .u32 d3, .bool h] #[.int .i64 nk, .int .i64 nc, .int .i64 nl, .int .i64 nt, .int .i64 no, .int .i64 ne, .int .i64 nw, .int .u32 nv, .int .u32 nd0, .int .u32 nd1, .int .u32 nd2, .int .u32 nd3, .bool nh] #[.int .i64 k, .int .i64 c, .int .i64 l, .int .i64 t, .int .i64 o, .int .i64 e, .int .i64 w_, .int .u32 v, .int .u32 d0, .int .u32 d1, .int .u32 d2, .int .u32 d3, .bool h] w11.heap.size (w11.alloc (.cells #[.int .i64 k, .int .i64 c, .int .i64 l, .int .i64 t, .int .i64 o, .int .i64 e, .int .i64 w_, .int .u32 v, .int .u32 d0, .int .u32 d1, .int .u32 d2, .int .u32 d3, .bool h] 28))) := Hid.in ⟨HS7.out.step hb2, heap_alloc_new _ _⟩
    have HLx := Hid.in (HL1.out.step hb2)
    clear hb hb2 HL1 HG1 HS7
    have HL1 := HLx
    clear HLx
    go_upto_region 8 with fail
    generalize hX : w11.alloc (.cells #[.int .i64 k, .int .i64 c, .int .i64 l, .int .i64 t, .int .i64 o, .int .i64 e, .int .i64 w_, .int .u32 v, .int .u32 d0, .int .u32 d1, .int .u32 d2, .int .u32 d3, .bool h] 28) = w12 at *
    clear hX
    go_wp2_with fail
    refine (within_i cut 0 ((M1 : Int) - 1) w12 (by decide) (by omega) (by omega)).mono ?_
    obtain ⟨kk, hkk, hkM⟩ : ∃ kk : Nat, wI cut 0 ((M1 : Int) - 1) = (kk : Int) ∧ kk < M1 := ⟨(wI cut 0 ((M1 : Int) - 1)).toNat, by have := wI_le cut 0 ((M1 : Int) - 1) (by omega); omega, by have := wI_le cut 0 ((M1 : Int) - 1) (by omega); omega⟩
    rw [hkk]
    clear hkk
    rintro r w13 ⟨rfl, rfl⟩
    have hsl := slice_toB a1 M1 c1 kk (by have := HL1.out.1; have := E1.out; omega)
    have HTK : Hid (kk = ((encM (k, c, l, t, o, e, w_, v, d0, d1, d2, d3, h)).take kk).length) := Hid.in (by rw [List.length_take]; have := E1.out; omega)
    have HCUT := Hid.in (gotM_cut (k, c, l, t, o, e, w_, v, d0, d1, d2, d3, h) H32.out ((rtB_iff _).1 HX.out) kk (by have := E1.out; omega))
    have hg2 := fun WW hE2 hL2 => sGet_any a1 kk c1 ((encM (k, c, l, t, o, e, w_, v, d0, d1, d2, d3, h)).take kk) WW sa hE2 HTK.out hL2 (fun x hx => encM_byte _ x (List.mem_of_mem_take hx)) (by rw [← HTK.out]; omega)
    rcases hz : gotM ((encM (k, c, l, t, o, e, w_, v, d0, d1, d2, d3, h)).take kk) with ⟨cz, xz⟩
    rw [hz] at HCUT hg2
    clear hz
    obtain ⟨zk, zc, zl, zt, zo, ze, zw, zv, zd0, zd1, zd2, zd3, zh⟩ := xz
    simp only [mv] at hg2
    have HG2 := Hid.in hg2
    clear hg2
    go_wp2_with fail
    refine (HG2.out _ (HE.out.below HS12.out.s.be) (HL1.out.take kk)).mono ?_
    rintro r w14 ⟨l14, rfl, hb, _⟩
    rw [gErr_ne _ _ _ HCUT.out]
    have hb2 := bstep hb (Nat.le_refl _) (below_alloc w14 (.cells #[.int .i64 zk, .int .i64 zc, .int .i64 zl, .int .i64 zt, .int .i64 zo, .int .i64 ze, .int .i64 zw, .int .u32 zv, .int .u32 zd0, .int .u32 zd1, .int .u32 zd2, .int .u32 zd3, .bool zh] 28))
    have HS15 := Hid.in (HS12.out.step hb2)
    have HLx := Hid.in (HL1.out.step hb2)
    clear hb hb2 HL1 HG2 HS12 HTK hsl
    have HL1 := HLx
    clear HLx
    go_upto_region 9 with fail
    generalize hX : w14.alloc (.cells #[.int .i64 zk, .int .i64 zc, .int .i64 zl, .int .i64 zt, .int .i64 zo, .int .i64 ze, .int .i64 zw, .int .u32 zv, .int .u32 zd0, .int .u32 zd1, .int .u32 zd2, .int .u32 zd3, .bool zh] 28) = w15 at *
    clear hX
    have he1 := fun w => eq_msgIn' (k, c, l, t, o, e, w_, v, d0, d1, d2, d3, h) (k, c, l, t, o, e, w_, v, d0, d1, d2, d3, h) w
    rw [eqB_self] at he1
    simp only [mv] at he1
    have p0 : ∀ n : Kin (SM3 w #[.int .i64 k, .int .i64 c, .int .i64 l, .int .i64 t, .int .i64 o, .int .i64 e, .int .i64 w_, .int .u32 v, .int .u32 d0, .int .u32 d1, .int .u32 d2, .int .u32 d3, .bool h] #[.int .i64 nk, .int .i64 nc, .int .i64 nl, .int .i64 nt, .int .i64 no, .int .i64 ne, .int .i64 nw, .int .u32 nv, .int .u32 nd0, .int .u32 nd1, .int .u32 nd2, .int .u32 nd3, .bool nh] #[.int .i64 k, .int .i64 c, .int .i64 l, .int .i64 t, .int .i64 o, .int .i64 e, .int .i64 w_, .int .u32 v, .int .u32 d0, .int .u32 d1, .int .u32 d2, .int .u32 d3, .bool h] w11.heap.size), n.of.cell? ⟨w.heap.size, 0, none⟩ = some (.int .i64 k) := fun n => blk_cell n.in.s.bA rfl
    have p1 : ∀ n : Kin (SM3 w #[.int .i64 k, .int .i64 c, .int .i64 l, .int .i64 t, .int .i64 o, .int .i64 e, .int .i64 w_, .int .u32 v, .int .u32 d0, .int .u32 d1, .int .u32 d2, .int .u32 d3, .bool h] #[.int .i64 nk, .int .i64 nc, .int .i64 nl, .int .i64 nt, .int .i64 no, .int .i64 ne, .int .i64 nw, .int .u32 nv, .int .u32 nd0, .int .u32 nd1, .int .u32 nd2, .int .u32 nd3, .bool nh] #[.int .i64 k, .int .i64 c, .int .i64 l, .int .i64 t, .int .i64 o, .int .i64 e, .int .i64 w_, .int .u32 v, .int .u32 d0, .int .u32 d1, .int .u32 d2, .int .u32 d3, .bool h] w11.heap.size), n.of.cell? ⟨w.heap.size, 1, none⟩ = some (.int .i64 c) := fun n => blk_cell n.in.s.bA rfl
    have p2 : ∀ n : Kin (SM3 w #[.int .i64 k, .int .i64 c, .int .i64 l, .int .i64 t, .int .i64 o, .int .i64 e, .int .i64 w_, .int .u32 v, .int .u32 d0, .int .u32 d1, .int .u32 d2, .int .u32 d3, .bool h] #[.int .i64 nk, .int .i64 nc, .int .i64 nl, .int .i64 nt, .int .i64 no, .int .i64 ne, .int .i64 nw, .int .u32 nv, .int .u32 nd0, .int .u32 nd1, .int .u32 nd2, .int .u32 nd3, .bool nh] #[.int .i64 k, .int .i64 c, .int .i64 l, .int .i64 t, .int .i64 o, .int .i64 e, .int .i64 w_, .int .u32 v, .int .u32 d0, .int .u32 d1, .int .u32 d2, .int .u32 d3, .bool h] w11.heap.size), n.of.cell? ⟨w.heap.size, 2, none⟩ = some (.int .i64 l) := fun n => blk_cell n.in.s.bA rfl
    have p3 : ∀ n : Kin (SM3 w #[.int .i64 k, .int .i64 c, .int .i64 l, .int .i64 t, .int .i64 o, .int .i64 e, .int .i64 w_, .int .u32 v, .int .u32 d0, .int .u32 d1, .int .u32 d2, .int .u32 d3, .bool h] #[.int .i64 nk, .int .i64 nc, .int .i64 nl, .int .i64 nt, .int .i64 no, .int .i64 ne, .int .i64 nw, .int .u32 nv, .int .u32 nd0, .int .u32 nd1, .int .u32 nd2, .int .u32 nd3, .bool nh] #[.int .i64 k, .int .i64 c, .int .i64 l, .int .i64 t, .int .i64 o, .int .i64 e, .int .i64 w_, .int .u32 v, .int .u32 d0, .int .u32 d1, .int .u32 d2, .int .u32 d3, .bool h] w11.heap.size), n.of.cell? ⟨w.heap.size, 3, none⟩ = some (.int .i64 t) := fun n => blk_cell n.in.s.bA rfl
    have p4 : ∀ n : Kin (SM3 w #[.int .i64 k, .int .i64 c, .int .i64 l, .int .i64 t, .int .i64 o, .int .i64 e, .int .i64 w_, .int .u32 v, .int .u32 d0, .int .u32 d1, .int .u32 d2, .int .u32 d3, .bool h] #[.int .i64 nk, .int .i64 nc, .int .i64 nl, .int .i64 nt, .int .i64 no, .int .i64 ne, .int .i64 nw, .int .u32 nv, .int .u32 nd0, .int .u32 nd1, .int .u32 nd2, .int .u32 nd3, .bool nh] #[.int .i64 k, .int .i64 c, .int .i64 l, .int .i64 t, .int .i64 o, .int .i64 e, .int .i64 w_, .int .u32 v, .int .u32 d0, .int .u32 d1, .int .u32 d2, .int .u32 d3, .bool h] w11.heap.size), n.of.cell? ⟨w.heap.size, 4, none⟩ = some (.int .i64 o) := fun n => blk_cell n.in.s.bA rfl
    have p5 : ∀ n : Kin (SM3 w #[.int .i64 k, .int .i64 c, .int .i64 l, .int .i64 t, .int .i64 o, .int .i64 e, .int .i64 w_, .int .u32 v, .int .u32 d0, .int .u32 d1, .int .u32 d2, .int .u32 d3, .bool h] #[.int .i64 nk, .int .i64 nc, .int .i64 nl, .int .i64 nt, .int .i64 no, .int .i64 ne, .int .i64 nw, .int .u32 nv, .int .u32 nd0, .int .u32 nd1, .int .u32 nd2, .int .u32 nd3, .bool nh] #[.int .i64 k, .int .i64 c, .int .i64 l, .int .i64 t, .int .i64 o, .int .i64 e, .int .i64 w_, .int .u32 v, .int .u32 d0, .int .u32 d1, .int .u32 d2, .int .u32 d3, .bool h] w11.heap.size), n.of.cell? ⟨w.heap.size, 5, none⟩ = some (.int .i64 e) := fun n => blk_cell n.in.s.bA rfl
    have p6 : ∀ n : Kin (SM3 w #[.int .i64 k, .int .i64 c, .int .i64 l, .int .i64 t, .int .i64 o, .int .i64 e, .int .i64 w_, .int .u32 v, .int .u32 d0, .int .u32 d1, .int .u32 d2, .int .u32 d3, .bool h] #[.int .i64 nk, .int .i64 nc, .int .i64 nl, .int .i64 nt, .int .i64 no, .int .i64 ne, .int .i64 nw, .int .u32 nv, .int .u32 nd0, .int .u32 nd1, .int .u32 nd2, .int .u32 nd3, .bool nh] #[.int .i64 k, .int .i64 c, .int .i64 l, .int .i64 t, .int .i64 o, .int .i64 e, .int .i64 w_, .int .u32 v, .int .u32 d0, .int .u32 d1, .int .u32 d2, .int .u32 d3, .bool h] w11.heap.size), n.of.cell? ⟨w.heap.size, 6, none⟩ = some (.int .i64 w_) := fun n => blk_cell n.in.s.bA rfl
    have p7 : ∀ n : Kin (SM3 w #[.int .i64 k, .int .i64 c, .int .i64 l, .int .i64 t, .int .i64 o, .int .i64 e, .int .i64 w_, .int .u32 v, .int .u32 d0, .int .u32 d1, .int .u32 d2, .int .u32 d3, .bool h] #[.int .i64 nk, .int .i64 nc, .int .i64 nl, .int .i64 nt, .int .i64 no, .int .i64 ne, .int .i64 nw, .int .u32 nv, .int .u32 nd0, .int .u32 nd1, .int .u32 nd2, .int .u32 nd3, .bool nh] #[.int .i64 k, .int .i64 c, .int .i64 l, .int .i64 t, .int .i64 o, .int .i64 e, .int .i64 w_, .int .u32 v, .int .u32 d0, .int .u32 d1, .int .u32 d2, .int .u32 d3, .bool h] w11.heap.size), n.of.cell? ⟨w.heap.size, 7, none⟩ = some (.int .u32 v) := fun n => blk_cell n.in.s.bA rfl
    have p8 : ∀ n : Kin (SM3 w #[.int .i64 k, .int .i64 c, .int .i64 l, .int .i64 t, .int .i64 o, .int .i64 e, .int .i64 w_, .int .u32 v, .int .u32 d0, .int .u32 d1, .int .u32 d2, .int .u32 d3, .bool h] #[.int .i64 nk, .int .i64 nc, .int .i64 nl, .int .i64 nt, .int .i64 no, .int .i64 ne, .int .i64 nw, .int .u32 nv, .int .u32 nd0, .int .u32 nd1, .int .u32 nd2, .int .u32 nd3, .bool nh] #[.int .i64 k, .int .i64 c, .int .i64 l, .int .i64 t, .int .i64 o, .int .i64 e, .int .i64 w_, .int .u32 v, .int .u32 d0, .int .u32 d1, .int .u32 d2, .int .u32 d3, .bool h] w11.heap.size), n.of.cell? ⟨w.heap.size, 8, none⟩ = some (.int .u32 d0) := fun n => blk_cell n.in.s.bA rfl
    have p9 : ∀ n : Kin (SM3 w #[.int .i64 k, .int .i64 c, .int .i64 l, .int .i64 t, .int .i64 o, .int .i64 e, .int .i64 w_, .int .u32 v, .int .u32 d0, .int .u32 d1, .int .u32 d2, .int .u32 d3, .bool h] #[.int .i64 nk, .int .i64 nc, .int .i64 nl, .int .i64 nt, .int .i64 no, .int .i64 ne, .int .i64 nw, .int .u32 nv, .int .u32 nd0, .int .u32 nd1, .int .u32 nd2, .int .u32 nd3, .bool nh] #[.int .i64 k, .int .i64 c, .int .i64 l, .int .i64 t, .int .i64 o, .int .i64 e, .int .i64 w_, .int .u32 v, .int .u32 d0, .int .u32 d1, .int .u32 d2, .int .u32 d3, .bool h] w11.heap.size), n.of.cell? ⟨w.heap.size, 9, none⟩ = some (.int .u32 d1) := fun n => blk_cell n.in.s.bA rfl
    have p10 : ∀ n : Kin (SM3 w #[.int .i64 k, .int .i64 c, .int .i64 l, .int .i64 t, .int .i64 o, .int .i64 e, .int .i64 w_, .int .u32 v, .int .u32 d0, .int .u32 d1, .int .u32 d2, .int .u32 d3, .bool h] #[.int .i64 nk, .int .i64 nc, .int .i64 nl, .int .i64 nt, .int .i64 no, .int .i64 ne, .int .i64 nw, .int .u32 nv, .int .u32 nd0, .int .u32 nd1, .int .u32 nd2, .int .u32 nd3, .bool nh] #[.int .i64 k, .int .i64 c, .int .i64 l, .int .i64 t, .int .i64 o, .int .i64 e, .int .i64 w_, .int .u32 v, .int .u32 d0, .int .u32 d1, .int .u32 d2, .int .u32 d3, .bool h] w11.heap.size), n.of.cell? ⟨w.heap.size, 10, none⟩ = some (.int .u32 d2) := fun n => blk_cell n.in.s.bA rfl
    have p11 : ∀ n : Kin (SM3 w #[.int .i64 k, .int .i64 c, .int .i64 l, .int .i64 t, .int .i64 o, .int .i64 e, .int .i64 w_, .int .u32 v, .int .u32 d0, .int .u32 d1, .int .u32 d2, .int .u32 d3, .bool h] #[.int .i64 nk, .int .i64 nc, .int .i64 nl, .int .i64 nt, .int .i64 no, .int .i64 ne, .int .i64 nw, .int .u32 nv, .int .u32 nd0, .int .u32 nd1, .int .u32 nd2, .int .u32 nd3, .bool nh] #[.int .i64 k, .int .i64 c, .int .i64 l, .int .i64 t, .int .i64 o, .int .i64 e, .int .i64 w_, .int .u32 v, .int .u32 d0, .int .u32 d1, .int .u32 d2, .int .u32 d3, .bool h] w11.heap.size), n.of.cell? ⟨w.heap.size, 11, none⟩ = some (.int .u32 d3) := fun n => blk_cell n.in.s.bA rfl
    have p12 : ∀ n : Kin (SM3 w #[.int .i64 k, .int .i64 c, .int .i64 l, .int .i64 t, .int .i64 o, .int .i64 e, .int .i64 w_, .int .u32 v, .int .u32 d0, .int .u32 d1, .int .u32 d2, .int .u32 d3, .bool h] #[.int .i64 nk, .int .i64 nc, .int .i64 nl, .int .i64 nt, .int .i64 no, .int .i64 ne, .int .i64 nw, .int .u32 nv, .int .u32 nd0, .int .u32 nd1, .int .u32 nd2, .int .u32 nd3, .bool nh] #[.int .i64 k, .int .i64 c, .int .i64 l, .int .i64 t, .int .i64 o, .int .i64 e, .int .i64 w_, .int .u32 v, .int .u32 d0, .int .u32 d1, .int .u32 d2, .int .u32 d3, .bool h] w11.heap.size), n.of.cell? ⟨w.heap.size, 12, none⟩ = some (.bool h) := fun n => blk_cell n.in.s.bA rfl
    have q0 : ∀ n : Kin (SM3 w #[.int .i64 k, .int .i64 c, .int .i64 l, .int .i64 t, .int .i64 o, .int .i64 e, .int .i64 w_, .int .u32 v, .int .u32 d0, .int .u32 d1, .int .u32 d2, .int .u32 d3, .bool h] #[.int .i64 nk, .int .i64 nc, .int .i64 nl, .int .i64 nt, .int .i64 no, .int .i64 ne, .int .i64 nw, .int .u32 nv, .int .u32 nd0, .int .u32 nd1, .int .u32 nd2, .int .u32 nd3, .bool nh] #[.int .i64 k, .int .i64 c, .int .i64 l, .int .i64 t, .int .i64 o, .int .i64 e, .int .i64 w_, .int .u32 v, .int .u32 d0, .int .u32 d1, .int .u32 d2, .int .u32 d3, .bool h] w11.heap.size), n.of.cell? ⟨w.heap.size + 1, 0, none⟩ = some (.int .i64 nk) := fun n => blk_cell n.in.s.bB rfl
    have q1 : ∀ n : Kin (SM3 w #[.int .i64 k, .int .i64 c, .int .i64 l, .int .i64 t, .int .i64 o, .int .i64 e, .int .i64 w_, .int .u32 v, .int .u32 d0, .int .u32 d1, .int .u32 d2, .int .u32 d3, .bool h] #[.int .i64 nk, .int .i64 nc, .int .i64 nl, .int .i64 nt, .int .i64 no, .int .i64 ne, .int .i64 nw, .int .u32 nv, .int .u32 nd0, .int .u32 nd1, .int .u32 nd2, .int .u32 nd3, .bool nh] #[.int .i64 k, .int .i64 c, .int .i64 l, .int .i64 t, .int .i64 o, .int .i64 e, .int .i64 w_, .int .u32 v, .int .u32 d0, .int .u32 d1, .int .u32 d2, .int .u32 d3, .bool h] w11.heap.size), n.of.cell? ⟨w.heap.size + 1, 1, none⟩ = some (.int .i64 nc) := fun n => blk_cell n.in.s.bB rfl
    have q2 : ∀ n : Kin (SM3 w #[.int .i64 k, .int .i64 c, .int .i64 l, .int .i64 t, .int .i64 o, .int .i64 e, .int .i64 w_, .int .u32 v, .int .u32 d0, .int .u32 d1, .int .u32 d2, .int .u32 d3, .bool h] #[.int .i64 nk, .int .i64 nc, .int .i64 nl, .int .i64 nt, .int .i64 no, .int .i64 ne, .int .i64 nw, .int .u32 nv, .int .u32 nd0, .int .u32 nd1, .int .u32 nd2, .int .u32 nd3, .bool nh] #[.int .i64 k, .int .i64 c, .int .i64 l, .int .i64 t, .int .i64 o, .int .i64 e, .int .i64 w_, .int .u32 v, .int .u32 d0, .int .u32 d1, .int .u32 d2, .int .u32 d3, .bool h] w11.heap.size), n.of.cell? ⟨w.heap.size + 1, 2, none⟩ = some (.int .i64 nl) := fun n => blk_cell n.in.s.bB rfl
    have q3 : ∀ n : Kin (SM3 w #[.int .i64 k, .int .i64 c, .int .i64 l, .int .i64 t, .int .i64 o, .int .i64 e, .int .i64 w_, .int .u32 v, .int .u32 d0, .int .u32 d1, .int .u32 d2, .int .u32 d3, .bool h] #[.int .i64 nk, .int .i64 nc, .int .i64 nl, .int .i64 nt, .int .i64 no, .int .i64 ne, .int .i64 nw, .int .u32 nv, .int .u32 nd0, .int .u32 nd1, .int .u32 nd2, .int .u32 nd3, .bool nh] #[.int .i64 k, .int .i64 c, .int .i64 l, .int .i64 t, .int .i64 o, .int .i64 e, .int .i64 w_, .int .u32 v, .int .u32 d0, .int .u32 d1, .int .u32 d2, .int .u32 d3, .bool h] w11.heap.size), n.of.cell? ⟨w.heap.size + 1, 3, none⟩ = some (.int .i64 nt) := fun n => blk_cell n.in.s.bB rfl
    have q4 : ∀ n : Kin (SM3 w #[.int .i64 k, .int .i64 c, .int .i64 l, .int .i64 t, .int .i64 o, .int .i64 e, .int .i64 w_, .int .u32 v, .int .u32 d0, .int .u32 d1, .int .u32 d2, .int .u32 d3, .bool h] #[.int .i64 nk, .int .i64 nc, .int .i64 nl, .int .i64 nt, .int .i64 no, .int .i64 ne, .int .i64 nw, .int .u32 nv, .int .u32 nd0, .int .u32 nd1, .int .u32 nd2, .int .u32 nd3, .bool nh] #[.int .i64 k, .int .i64 c, .int .i64 l, .int .i64 t, .int .i64 o, .int .i64 e, .int .i64 w_, .int .u32 v, .int .u32 d0, .int .u32 d1, .int .u32 d2, .int .u32 d3, .bool h] w11.heap.size), n.of.cell? ⟨w.heap.size + 1, 4, none⟩ = some (.int .i64 no) := fun n => blk_cell n.in.s.bB rfl
    have q5 : ∀ n : Kin (SM3 w #[.int .i64 k, .int .i64 c, .int .i64 l, .int .i64 t, .int .i64 o, .int .i64 e, .int .i64 w_, .int .u32 v, .int .u32 d0, .int .u32 d1, .int .u32 d2, .int .u32 d3, .bool h] #[.int .i64 nk, .int .i64 nc, .int .i64 nl, .int .i64 nt, .int .i64 no, .int .i64 ne, .int .i64 nw, .int .u32 nv, .int .u32 nd0, .int .u32 nd1, .int .u32 nd2, .int .u32 nd3, .bool nh] #[.int .i64 k, .int .i64 c, .int .i64 l, .int .i64 t, .int .i64 o, .int .i64 e, .int .i64 w_, .int .u32 v, .int .u32 d0, .int .u32 d1, .int .u32 d2, .int .u32 d3, .bool h] w11.heap.size), n.of.cell? ⟨w.heap.size + 1, 5, none⟩ = some (.int .i64 ne) := fun n => blk_cell n.in.s.bB rfl
    have q6 : ∀ n : Kin (SM3 w #[.int .i64 k, .int .i64 c, .int .i64 l, .int .i64 t, .int .i64 o, .int .i64 e, .int .i64 w_, .int .u32 v, .int .u32 d0, .int .u32 d1, .int .u32 d2, .int .u32 d3, .bool h] #[.int .i64 nk, .int .i64 nc, .int .i64 nl, .int .i64 nt, .int .i64 no, .int .i64 ne, .int .i64 nw, .int .u32 nv, .int .u32 nd0, .int .u32 nd1, .int .u32 nd2, .int .u32 nd3, .bool nh] #[.int .i64 k, .int .i64 c, .int .i64 l, .int .i64 t, .int .i64 o, .int .i64 e, .int .i64 w_, .int .u32 v, .int .u32 d0, .int .u32 d1, .int .u32 d2, .int .u32 d3, .bool h] w11.heap.size), n.of.cell? ⟨w.heap.size + 1, 6, none⟩ = some (.int .i64 nw) := fun n => blk_cell n.in.s.bB rfl
    have q7 : ∀ n : Kin (SM3 w #[.int .i64 k, .int .i64 c, .int .i64 l, .int .i64 t, .int .i64 o, .int .i64 e, .int .i64 w_, .int .u32 v, .int .u32 d0, .int .u32 d1, .int .u32 d2, .int .u32 d3, .bool h] #[.int .i64 nk, .int .i64 nc, .int .i64 nl, .int .i64 nt, .int .i64 no, .int .i64 ne, .int .i64 nw, .int .u32 nv, .int .u32 nd0, .int .u32 nd1, .int .u32 nd2, .int .u32 nd3, .bool nh] #[.int .i64 k, .int .i64 c, .int .i64 l, .int .i64 t, .int .i64 o, .int .i64 e, .int .i64 w_, .int .u32 v, .int .u32 d0, .int .u32 d1, .int .u32 d2, .int .u32 d3, .bool h] w11.heap.size), n.of.cell? ⟨w.heap.size + 1, 7, none⟩ = some (.int .u32 nv) := fun n => blk_cell n.in.s.bB rfl
    have q8 : ∀ n : Kin (SM3 w #[.int .i64 k, .int .i64 c, .int .i64 l, .int .i64 t, .int .i64 o, .int .i64 e, .int .i64 w_, .int .u32 v, .int .u32 d0, .int .u32 d1, .int .u32 d2, .int .u32 d3, .bool h] #[.int .i64 nk, .int .i64 nc, .int .i64 nl, .int .i64 nt, .int .i64 no, .int .i64 ne, .int .i64 nw, .int .u32 nv, .int .u32 nd0, .int .u32 nd1, .int .u32 nd2, .int .u32 nd3, .bool nh] #[.int .i64 k, .int .i64 c, .int .i64 l, .int .i64 t, .int .i64 o, .int .i64 e, .int .i64 w_, .int .u32 v, .int .u32 d0, .int .u32 d1, .int .u32 d2, .int .u32 d3, .bool h] w11.heap.size), n.of.cell? ⟨w.heap.size + 1, 8, none⟩ = some (.int .u32 nd0) := fun n => blk_cell n.in.s.bB rfl
    have q9 : ∀ n : Kin (SM3 w #[.int .i64 k, .int .i64 c, .int .i64 l, .int .i64 t, .int .i64 o, .int .i64 e, .int .i64 w_, .int .u32 v, .int .u32 d0, .int .u32 d1, .int .u32 d2, .int .u32 d3, .bool h] #[.int .i64 nk, .int .i64 nc, .int .i64 nl, .int .i64 nt, .int .i64 no, .int .i64 ne, .int .i64 nw, .int .u32 nv, .int .u32 nd0, .int .u32 nd1, .int .u32 nd2, .int .u32 nd3, .bool nh] #[.int .i64 k, .int .i64 c, .int .i64 l, .int .i64 t, .int .i64 o, .int .i64 e, .int .i64 w_, .int .u32 v, .int .u32 d0, .int .u32 d1, .int .u32 d2, .int .u32 d3, .bool h] w11.heap.size), n.of.cell? ⟨w.heap.size + 1, 9, none⟩ = some (.int .u32 nd1) := fun n => blk_cell n.in.s.bB rfl
    have q10 : ∀ n : Kin (SM3 w #[.int .i64 k, .int .i64 c, .int .i64 l, .int .i64 t, .int .i64 o, .int .i64 e, .int .i64 w_, .int .u32 v, .int .u32 d0, .int .u32 d1, .int .u32 d2, .int .u32 d3, .bool h] #[.int .i64 nk, .int .i64 nc, .int .i64 nl, .int .i64 nt, .int .i64 no, .int .i64 ne, .int .i64 nw, .int .u32 nv, .int .u32 nd0, .int .u32 nd1, .int .u32 nd2, .int .u32 nd3, .bool nh] #[.int .i64 k, .int .i64 c, .int .i64 l, .int .i64 t, .int .i64 o, .int .i64 e, .int .i64 w_, .int .u32 v, .int .u32 d0, .int .u32 d1, .int .u32 d2, .int .u32 d3, .bool h] w11.heap.size), n.of.cell? ⟨w.heap.size + 1, 10, none⟩ = some (.int .u32 nd2) := fun n => blk_cell n.in.s.bB rfl
    have q11 : ∀ n : Kin (SM3 w #[.int .i64 k, .int .i64 c, .int .i64 l, .int .i64 t, .int .i64 o, .int .i64 e, .int .i64 w_, .int .u32 v, .int .u32 d0, .int .u32 d1, .int .u32 d2, .int .u32 d3, .bool h] #[.int .i64 nk, .int .i64 nc, .int .i64 nl, .int .i64 nt, .int .i64 no, .int .i64 ne, .int .i64 nw, .int .u32 nv, .int .u32 nd0, .int .u32 nd1, .int .u32 nd2, .int .u32 nd3, .bool nh] #[.int .i64 k, .int .i64 c, .int .i64 l, .int .i64 t, .int .i64 o, .int .i64 e, .int .i64 w_, .int .u32 v, .int .u32 d0, .int .u32 d1, .int .u32 d2, .int .u32 d3, .bool h] w11.heap.size), n.of.cell? ⟨w.heap.size + 1, 11, none⟩ = some (.int .u32 nd3) := fun n => blk_cell n.in.s.bB rfl
    have q12 : ∀ n : Kin (SM3 w #[.int .i64 k, .int .i64 c, .int .i64 l, .int .i64 t, .int .i64 o, .int .i64 e, .int .i64 w_, .int .u32 v, .int .u32 d0, .int .u32 d1, .int .u32 d2, .int .u32 d3, .bool h] #[.int .i64 nk, .int .i64 nc, .int .i64 nl, .int .i64 nt, .int .i64 no, .int .i64 ne, .int .i64 nw, .int .u32 nv, .int .u32 nd0, .int .u32 nd1, .int .u32 nd2, .int .u32 nd3, .bool nh] #[.int .i64 k, .int .i64 c, .int .i64 l, .int .i64 t, .int .i64 o, .int .i64 e, .int .i64 w_, .int .u32 v, .int .u32 d0, .int .u32 d1, .int .u32 d2, .int .u32 d3, .bool h] w11.heap.size), n.of.cell? ⟨w.heap.size + 1, 12, none⟩ = some (.bool nh) := fun n => blk_cell n.in.s.bB rfl
    have u0 : ∀ n : Kin (SM3 w #[.int .i64 k, .int .i64 c, .int .i64 l, .int .i64 t, .int .i64 o, .int .i64 e, .int .i64 w_, .int .u32 v, .int .u32 d0, .int .u32 d1, .int .u32 d2, .int .u32 d3, .bool h] #[.int .i64 nk, .int .i64 nc, .int .i64 nl, .int .i64 nt, .int .i64 no, .int .i64 ne, .int .i64 nw, .int .u32 nv, .int .u32 nd0, .int .u32 nd1, .int .u32 nd2, .int .u32 nd3, .bool nh] #[.int .i64 k, .int .i64 c, .int .i64 l, .int .i64 t, .int .i64 o, .int .i64 e, .int .i64 w_, .int .u32 v, .int .u32 d0, .int .u32 d1, .int .u32 d2, .int .u32 d3, .bool h] w11.heap.size), n.of.cell? ⟨w11.heap.size, 0, none⟩ = some (.int .i64 k) := fun n => blk_cell n.in.bC rfl
    have u1 : ∀ n : Kin (SM3 w #[.int .i64 k, .int .i64 c, .int .i64 l, .int .i64 t, .int .i64 o, .int .i64 e, .int .i64 w_, .int .u32 v, .int .u32 d0, .int .u32 d1, .int .u32 d2, .int .u32 d3, .bool h] #[.int .i64 nk, .int .i64 nc, .int .i64 nl, .int .i64 nt, .int .i64 no, .int .i64 ne, .int .i64 nw, .int .u32 nv, .int .u32 nd0, .int .u32 nd1, .int .u32 nd2, .int .u32 nd3, .bool nh] #[.int .i64 k, .int .i64 c, .int .i64 l, .int .i64 t, .int .i64 o, .int .i64 e, .int .i64 w_, .int .u32 v, .int .u32 d0, .int .u32 d1, .int .u32 d2, .int .u32 d3, .bool h] w11.heap.size), n.of.cell? ⟨w11.heap.size, 1, none⟩ = some (.int .i64 c) := fun n => blk_cell n.in.bC rfl
    have u2 : ∀ n : Kin (SM3 w #[.int .i64 k, .int .i64 c, .int .i64 l, .int .i64 t, .int .i64 o, .int .i64 e, .int .i64 w_, .int .u32 v, .int .u32 d0, .int .u32 d1, .int .u32 d2, .int .u32 d3, .bool h] #[.int .i64 nk, .int .i64 nc, .int .i64 nl, .int .i64 nt, .int .i64 no, .int .i64 ne, .int .i64 nw, .int .u32 nv, .int .u32 nd0, .int .u32 nd1, .int .u32 nd2, .int .u32 nd3, .bool nh] #[.int .i64 k, .int .i64 c, .int .i64 l, .int .i64 t, .int .i64 o, .int .i64 e, .int .i64 w_, .int .u32 v, .int .u32 d0, .int .u32 d1, .int .u32 d2, .int .u32 d3, .bool h] w11.heap.size), n.of.cell? ⟨w11.heap.size, 2, none⟩ = some (.int .i64 l) := fun n => blk_cell n.in.bC rfl
    have u3 : ∀ n : Kin (SM3 w #[.int .i64 k, .int .i64 c, .int .i64 l, .int .i64 t, .int .i64 o, .int .i64 e, .int .i64 w_, .int .u32 v, .int .u32 d0, .int .u32 d1, .int .u32 d2, .int .u32 d3, .bool h] #[.int .i64 nk, .int .i64 nc, .int .i64 nl, .int .i64 nt, .int .i64 no, .int .i64 ne, .int .i64 nw, .int .u32 nv, .int .u32 nd0, .int .u32 nd1, .int .u32 nd2, .int .u32 nd3, .bool nh] #[.int .i64 k, .int .i64 c, .int .i64 l, .int .i64 t, .int .i64 o, .int .i64 e, .int .i64 w_, .int .u32 v, .int .u32 d0, .int .u32 d1, .int .u32 d2, .int .u32 d3, .bool h] w11.heap.size), n.of.cell? ⟨w11.heap.size, 3, none⟩ = some (.int .i64 t) := fun n => blk_cell n.in.bC rfl
    have u4 : ∀ n : Kin (SM3 w #[.int .i64 k, .int .i64 c, .int .i64 l, .int .i64 t, .int .i64 o, .int .i64 e, .int .i64 w_, .int .u32 v, .int .u32 d0, .int .u32 d1, .int .u32 d2, .int .u32 d3, .bool h] #[.int .i64 nk, .int .i64 nc, .int .i64 nl, .int .i64 nt, .int .i64 no, .int .i64 ne, .int .i64 nw, .int .u32 nv, .int .u32 nd0, .int .u32 nd1, .int .u32 nd2, .int .u32 nd3, .bool nh] #[.int .i64 k, .int .i64 c, .int .i64 l, .int .i64 t, .int .i64 o, .int .i64 e, .int .i64 w_, .int .u32 v, .int .u32 d0, .int .u32 d1, .int .u32 d2, .int .u32 d3, .bool h] w11.heap.size), n.of.cell? ⟨w11.heap.size, 4, none⟩ = some (.int .i64 o) := fun n => blk_cell n.in.bC rfl
    have u5 : ∀ n : Kin (SM3 w #[.int .i64 k, .int .i64 c, .int .i64 l, .int .i64 t, .int .i64 o, .int .i64 e, .int .i64 w_, .int .u32 v, .int .u32 d0, .int .u32 d1, .int .u32 d2, .int .u32 d3, .bool h] #[.int .i64 nk, .int .i64 nc, .int .i64 nl, .int .i64 nt, .int .i64 no, .int .i64 ne, .int .i64 nw, .int .u32 nv, .int .u32 nd0, .int .u32 nd1, .int .u32 nd2, .int .u32 nd3, .bool nh] #[.int .i64 k, .int .i64 c, .int .i64 l, .int .i64 t, .int .i64 o, .int .i64 e, .int .i64 w_, .int .u32 v, .int .u32 d0, .int .u32 d1, .int .u32 d2, .int .u32 d3, .bool h] w11.heap.size), n.of.cell? ⟨w11.heap.size, 5, none⟩ = some (.int .i64 e) := fun n => blk_cell n.in.bC rfl
    have u6 : ∀ n : Kin (SM3 w #[.int .i64 k, .int .i64 c, .int .i64 l, .int .i64 t, .int .i64 o, .int .i64 e, .int .i64 w_, .int .u32 v, .int .u32 d0, .int .u32 d1, .int .u32 d2, .int .u32 d3, .bool h] #[.int .i64 nk, .int .i64 nc, .int .i64 nl, .int .i64 nt, .int .i64 no, .int .i64 ne, .int .i64 nw, .int .u32 nv, .int .u32 nd0, .int .u32 nd1, .int .u32 nd2, .int .u32 nd3, .bool nh] #[.int .i64 k, .int .i64 c, .int .i64 l, .int .i64 t, .int .i64 o, .int .i64 e, .int .i64 w_, .int .u32 v, .int .u32 d0, .int .u32 d1, .int .u32 d2, .int .u32 d3, .bool h] w11.heap.size), n.of.cell? ⟨w11.heap.size, 6, none⟩ = some (.int .i64 w_) := fun n => blk_cell n.in.bC rfl
    have u7 : ∀ n : Kin (SM3 w #[.int .i64 k, .int .i64 c, .int .i64 l, .int .i64 t, .int .i64 o, .int .i64 e, .int .i64 w_, .int .u32 v, .int .u32 d0, .int .u32 d1, .int .u32 d2, .int .u32 d3, .bool h] #[.int .i64 nk, .int .i64 nc, .int .i64 nl, .int .i64 nt, .int .i64 no, .int .i64 ne, .int .i64 nw, .int .u32 nv, .int .u32 nd0, .int .u32 nd1, .int .u32 nd2, .int .u32 nd3, .bool nh] #[.int .i64 k, .int .i64 c, .int .i64 l, .int .i64 t, .int .i64 o, .int .i64 e, .int .i64 w_, .int .u32 v, .int .u32 d0, .int .u32 d1, .int .u32 d2, .int .u32 d3, .bool h] w11.heap.size), n.of.cell? ⟨w11.heap.size, 7, none⟩ = some (.int .u32 v) := fun n => blk_cell n.in.bC rfl
    have u8 : ∀ n : Kin (SM3 w #[.int .i64 k, .int .i64 c, .int .i64 l, .int .i64 t, .int .i64 o, .int .i64 e, .int .i64 w_, .int .u32 v, .int .u32 d0, .int .u32 d1, .int .u32 d2, .int .u32 d3, .bool h] #[.int .i64 nk, .int .i64 nc, .int .i64 nl, .int .i64 nt, .int .i64 no, .int .i64 ne, .int .i64 nw, .int .u32 nv, .int .u32 nd0, .int .u32 nd1, .int .u32 nd2, .int .u32 nd3, .bool nh] #[.int .i64 k, .int .i64 c, .int .i64 l, .int .i64 t, .int .i64 o, .int .i64 e, .int .i64 w_, .int .u32 v, .int .u32 d0, .int .u32 d1, .int .u32 d2, .int .u32 d3, .bool h] w11.heap.size), n.of.cell? ⟨w11.heap.size, 8, none⟩ = some (.int .u32 d0) := fun n => blk_cell n.in.bC rfl
    have u9 : ∀ n : Kin (SM3 w #[.int .i64 k, .int .i64 c, .int .i64 l, .int .i64 t, .int .i64 o, .int .i64 e, .int .i64 w_, .int .u32 v, .int .u32 d0, .int .u32 d1, .int .u32 d2, .int .u32 d3, .bool h] #[.int .i64 nk, .int .i64 nc, .int .i64 nl, .int .i64 nt, .int .i64 no, .int .i64 ne, .int .i64 nw, .int .u32 nv, .int .u32 nd0, .int .u32 nd1, .int .u32 nd2, .int .u32 nd3, .bool nh] #[.int .i64 k, .int .i64 c, .int .i64 l, .int .i64 t, .int .i64 o, .int .i64 e, .int .i64 w_, .int .u32 v, .int .u32 d0, .int .u32 d1, .int .u32 d2, .int .u32 d3, .bool h] w11.heap.size), n.of.cell? ⟨w11.heap.size, 9, none⟩ = some (.int .u32 d1) := fun n => blk_cell n.in.bC rfl
    have u10 : ∀ n : Kin (SM3 w #[.int .i64 k, .int .i64 c, .int .i64 l, .int .i64 t, .int .i64 o, .int .i64 e, .int .i64 w_, .int .u32 v, .int .u32 d0, .int .u32 d1, .int .u32 d2, .int .u32 d3, .bool h] #[.int .i64 nk, .int .i64 nc, .int .i64 nl, .int .i64 nt, .int .i64 no, .int .i64 ne, .int .i64 nw, .int .u32 nv, .int .u32 nd0, .int .u32 nd1, .int .u32 nd2, .int .u32 nd3, .bool nh] #[.int .i64 k, .int .i64 c, .int .i64 l, .int .i64 t, .int .i64 o, .int .i64 e, .int .i64 w_, .int .u32 v, .int .u32 d0, .int .u32 d1, .int .u32 d2, .int .u32 d3, .bool h] w11.heap.size), n.of.cell? ⟨w11.heap.size, 10, none⟩ = some (.int .u32 d2) := fun n => blk_cell n.in.bC rfl
    have u11 : ∀ n : Kin (SM3 w #[.int .i64 k, .int .i64 c, .int .i64 l, .int .i64 t, .int .i64 o, .int .i64 e, .int .i64 w_, .int .u32 v, .int .u32 d0, .int .u32 d1, .int .u32 d2, .int .u32 d3, .bool h] #[.int .i64 nk, .int .i64 nc, .int .i64 nl, .int .i64 nt, .int .i64 no, .int .i64 ne, .int .i64 nw, .int .u32 nv, .int .u32 nd0, .int .u32 nd1, .int .u32 nd2, .int .u32 nd3, .bool nh] #[.int .i64 k, .int .i64 c, .int .i64 l, .int .i64 t, .int .i64 o, .int .i64 e, .int .i64 w_, .int .u32 v, .int .u32 d0, .int .u32 d1, .int .u32 d2, .int .u32 d3, .bool h] w11.heap.size), n.of.cell? ⟨w11.heap.size, 11, none⟩ = some (.int .u32 d3) := fun n => blk_cell n.in.bC rfl
    have u12 : ∀ n : Kin (SM3 w #[.int .i64 k, .int .i64 c, .int .i64 l, .int .i64 t, .int .i64 o, .int .i64 e, .int .i64 w_, .int .u32 v, .int .u32 d0, .int .u32 d1, .int .u32 d2, .int .u32 d3, .bool h] #[.int .i64 nk, .int .i64 nc, .int .i64 nl, .int .i64 nt, .int .i64 no, .int .i64 ne, .int .i64 nw, .int .u32 nv, .int .u32 nd0, .int .u32 nd1, .int .u32 nd2, .int .u32 nd3, .bool nh] #[.int .i64 k, .int .i64 c, .int .i64 l, .int .i64 t, .int .i64 o, .int .i64 e, .int .i64 w_, .int .u32 v, .int .u32 d0, .int .u32 d1, .int .u32 d2, .int .u32 d3, .bool h] w11.heap.size), n.of.cell? ⟨w11.heap.size, 12, none⟩ = some (.bool h) := fun n => blk_cell n.in.bC rfl
    have hr := fun W => sRight_any (nk, nc, nl, nt, no, ne, nw, nv, nd0, nd1, nd2, nd3, nh) W G32.out G64.out
    rw [HY.out] at hr
    simp only [mv] at hr
    have HR := Hid.in hr
    clear hr
    refine wp_region_kin (C := SM3 w #[.int .i64 k, .int .i64 c, .int .i64 l, .int .i64 t, .int .i64 o, .int .i64 e, .int .i64 w_, .int .u32 v, .int .u32 d0, .int .u32 d1, .int .u32 d2, .int .u32 d3, .bool h] #[.int .i64 nk, .int .i64 nc, .int .i64 nl, .int .i64 nt, .int .i64 no, .int .i64 ne, .int .i64 nw, .int .u32 nv, .int .u32 nd0, .int .u32 nd1, .int .u32 nd2, .int .u32 nd3, .bool nh] #[.int .i64 k, .int .i64 c, .int .i64 l, .int .i64 t, .int .i64 o, .int .i64 e, .int .i64 w_, .int .u32 v, .int .u32 d0, .int .u32 d1, .int .u32 d2, .int .u32 d3, .bool h] w11.heap.size) (by kernel_rfl) (by kernel_rfl) (HS15.out.step ((Below.refl _ _).drew)) (fun hne => ?_)
    repeat (go_big_quiet_step (first | (go_at_call 20; with_reducible exact Kin.call _ (fun hc => (HR.out _).mono (fun _ _ hr => ⟨hr.1, hc.step hr.2⟩))) | (go_at_call 3; with_reducible exact Kin.call _ (fun hc => (msgRuns_any _ sa (HE.out.below hc.s.be)).mono (fun _ _ hr => ⟨hr.1, hc.step hr.2⟩)))))
    refine wpQuiet_nil ?_
    rintro wn ⟨n, rfl⟩
    have HN := Hid.in n.in
    obtain ⟨wn, hwn⟩ : ∃ wn, n.of = wn := ⟨_, rfl⟩
    rw [hwn] at HN ⊢
    clear hwn n he1 p0 p1 p2 p3 p4 p5 p6 p7 p8 p9 p10 p11 p12 q0 q1 q2 q3 q4 q5 q6 q7 q8 q9 q10 q11 q12 u0 u1 u2 u3 u4 u5 u6 u7 u8 u9 u10 u11 u12
    go_wp2
    go_ret
    exact ⟨rfl, HN.out.s.be⟩

set_option maxHeartbeats 6400000 in
set_option maxRecDepth 20000 in
theorem msgBack_yy (w : World) (sa : Nat → Addr) (hE : Env10 w sa) (k c l t o e w_ v d0 d1 d2 d3 : Int) (h : Bool) (nk nc nl nt no ne nw nv nd0 nd1 nd2 nd3 : Int) (nh : Bool) (h32 : M32 (k, c, l, t, o, e, w_, v, d0, d1, d2, d3, h)) (h64 : M64 (k, c, l, t, o, e, w_, v, d0, d1, d2, d3, h)) (g32 : M32 (nk, nc, nl, nt, no, ne, nw, nv, nd0, nd1, nd2, nd3, nh)) (g64 : M64 (nk, nc, nl, nt, no, ne, nw, nv, nd0, nd1, nd2, nd3, nh)) (ab : Option Addr) (cb : Nat) (bs : List Nat) (hB : Lie w ab cb bs) (hby : ∀ x ∈ bs, x < 256) (hln : bs.length ≤ 140737488355328) (cut : Int) (hx : rtB (k, c, l, t, o, e, w_, v, d0, d1, d2, d3, h) = true) (hy : rtB (nk, nc, nl, nt, no, ne, nw, nv, nd0, nd1, nd2, nd3, nh) = true) :
    Calls Tryd.prog 5 #[.agg #[.int .i64 k, .int .i64 c, .int .i64 l, .int .i64 t, .int .i64 o, .int .i64 e, .int .i64 w_, .int .u32 v, .int .u32 d0, .int .u32 d1, .int .u32 d2, .int .u32 d3, .bool h], .agg #[.int .i64 nk, .int .i64 nc, .int .i64 nl, .int .i64 nt, .int .i64 no, .int .i64 ne, .int .i64 nw, .int .u32 nv, .int .u32 nd0, .int .u32 nd1, .int .u32 nd2, .int .u32 nd3, .bool nh], .slice ab bs.length cb, .int .i64 cut] w fun r w' => r = .returned (.bool true) ∧ Below w.heap.size w w' := by
  have HX := Hid.in hx
  have HY := Hid.in hy
  clear hx hy
  have HE := Hid.in hE
  have H32 := Hid.in h32
  have H64 := Hid.in h64
  have G32 := Hid.in g32
  have G64 := Hid.in g64
  have HLB := Hid.in hB
  have HBY := Hid.in hby
  clear hE h32 h64 g32 g64 hB hby
  have HS0 : Hid (SM2 w #[.int .i64 k, .int .i64 c, .int .i64 l, .int .i64 t, .int .i64 o, .int .i64 e, .int .i64 w_, .int .u32 v, .int .u32 d0, .int .u32 d1, .int .u32 d2, .int .u32 d3, .bool h] #[.int .i64 nk, .int .i64 nc, .int .i64 nl, .int .i64 nt, .int .i64 no, .int .i64 ne, .int .i64 nw, .int .u32 nv, .int .u32 nd0, .int .u32 nd1, .int .u32 nd2, .int .u32 nd3, .bool nh] ((w.alloc (.cells #[.int .i64 k, .int .i64 c, .int .i64 l, .int .i64 t, .int .i64 o, .int .i64 e, .int .i64 w_, .int .u32 v, .int .u32 d0, .int .u32 d1, .int .u32 d2, .int .u32 d3, .bool h] 28)).alloc (.cells #[.int .i64 nk, .int .i64 nc, .int .i64 nl, .int .i64 nt, .int .i64 no, .int .i64 ne, .int .i64 nw, .int .u32 nv, .int .u32 nd0, .int .u32 nd1, .int .u32 nd2, .int .u32 nd3, .bool nh] 28))) := Hid.in (SM2.start _ _ _)
  have HLB0 := Hid.in (HLB.out.step HS0.out.be)
  rcases hg : gotM bs with ⟨cg, xg⟩
  have HG := Hid.in hg
  clear hg
  have hget := fun W hE2 hL2 => sGet_any ab bs.length cb bs W sa hE2 rfl hL2 HBY.out hln
  rw [HG.out] at hget
  obtain ⟨xk, xc, xl, xt, xo, xe, xw, xv, xd0, xd1, xd2, xd3, xh⟩ := xg
  simp only [mv] at hget
  have HGET := Hid.in hget
  clear hget
  go_enter Tryd.func5, Tryd.ntmps5
  go_upto_region 1 with fail
  generalize hX : ((w.alloc (.cells #[.int .i64 k, .int .i64 c, .int .i64 l, .int .i64 t, .int .i64 o, .int .i64 e, .int .i64 w_, .int .u32 v, .int .u32 d0, .int .u32 d1, .int .u32 d2, .int .u32 d3, .bool h] 28)).alloc (.cells #[.int .i64 nk, .int .i64 nc, .int .i64 nl, .int .i64 nt, .int .i64 no, .int .i64 ne, .int .i64 nw, .int .u32 nv, .int .u32 nd0, .int .u32 nd1, .int .u32 nd2, .int .u32 nd3, .bool nh] 28)) = W0 at *
  clear hX
  go_wp2_with fail
  refine (HGET.out _ (HE.out.below HS0.out.be) HLB0.out).mono ?_
  rintro r w1 ⟨l1, rfl, hb, hcc⟩
  obtain ⟨e1, he1⟩ : ∃ e1, gErr sa l1 cg = e1 := ⟨_, rfl⟩
  rw [he1]
  have HE1 := Hid.in he1
  have hb2 := bstep hb (Nat.le_refl _) (below_alloc w1 (.cells #[.int .i64 xk, .int .i64 xc, .int .i64 xl, .int .i64 xt, .int .i64 xo, .int .i64 xe, .int .i64 xw, .int .u32 xv, .int .u32 xd0, .int .u32 xd1, .int .u32 xd2, .int .u32 xd3, .bool xh] 28))
  have HS2 := Hid.in (HS0.out.step hb2)
  have HLB2 := Hid.in (HLB0.out.step hb2)
  have HX2 : Hid ((w1.alloc (.cells #[.int .i64 xk, .int .i64 xc, .int .i64 xl, .int .i64 xt, .int .i64 xo, .int .i64 xe, .int .i64 xw, .int .u32 xv, .int .u32 xd0, .int .u32 xd1, .int .u32 xd2, .int .u32 xd3, .bool xh] 28)).heap[w1.heap.size]? = some (.cells #[.int .i64 xk, .int .i64 xc, .int .i64 xl, .int .i64 xt, .int .i64 xo, .int .i64 xe, .int .i64 xw, .int .u32 xv, .int .u32 xd0, .int .u32 xd1, .int .u32 xd2, .int .u32 xd3, .bool xh] 28 (0, 0))) := Hid.in (heap_alloc_new _ _)
  clear hb hb2 he1 hcc HGET HS0 HLB0
  go_upto_region 2 with fail
  generalize hX : w1.alloc (.cells #[.int .i64 xk, .int .i64 xc, .int .i64 xl, .int .i64 xt, .int .i64 xo, .int .i64 xe, .int .i64 xw, .int .u32 xv, .int .u32 xd0, .int .u32 xd1, .int .u32 xd2, .int .u32 xd3, .bool xh] 28) = w2 at *
  clear hX
  go_cut [29] (fun x we => x = .bool false ∧ SM2 w #[.int .i64 k, .int .i64 c, .int .i64 l, .int .i64 t, .int .i64 o, .int .i64 e, .int .i64 w_, .int .u32 v, .int .u32 d0, .int .u32 d1, .int .u32 d2, .int .u32 d3, .bool h] #[.int .i64 nk, .int .i64 nc, .int .i64 nl, .int .i64 nt, .int .i64 no, .int .i64 ne, .int .i64 nw, .int .u32 nv, .int .u32 nd0, .int .u32 nd1, .int .u32 nd2, .int .u32 nd3, .bool nh] we)
  case first =>
    by_cases hc : cg = 0
    · subst hc
      rw [gErr_zero] at HE1
      obtain rfl := HE1.out
      obtain ⟨o1, o2, o3, o4⟩ := gotM_ok HG.out HBY.out
      have O1 := Hid.in o1
      have O4 := Hid.in o4
      have hp := sPut_ok (xk, xc, xl, xt, xo, xe, xw, xv, xd0, xd1, xd2, xd3, xh) w2 o2 o1
      rw [← o4] at hp
      simp only [mv] at hp
      have HP := Hid.in hp
      clear hp o1 o2 o3 o4
      have x0 : w2.cell? ⟨w1.heap.size, 0, none⟩ = some (.int .i64 xk) := blk_cell HX2.out rfl
      have x1 : w2.cell? ⟨w1.heap.size, 1, none⟩ = some (.int .i64 xc) := blk_cell HX2.out rfl
      have x2 : w2.cell? ⟨w1.heap.size, 2, none⟩ = some (.int .i64 xl) := blk_cell HX2.out rfl
      have x3 : w2.cell? ⟨w1.heap.size, 3, none⟩ = some (.int .i64 xt) := blk_cell HX2.out rfl
      have x4 : w2.cell? ⟨w1.heap.size, 4, none⟩ = some (.int .i64 xo) := blk_cell HX2.out rfl
      have x5 : w2.cell? ⟨w1.heap.size, 5, none⟩ = some (.int .i64 xe) := blk_cell HX2.out rfl
      have x6 : w2.cell? ⟨w1.heap.size, 6, none⟩ = some (.int .i64 xw) := blk_cell HX2.out rfl
      have x7 : w2.cell? ⟨w1.heap.size, 7, none⟩ = some (.int .u32 xv) := blk_cell HX2.out rfl
      have x8 : w2.cell? ⟨w1.heap.size, 8, none⟩ = some (.int .u32 xd0) := blk_cell HX2.out rfl
      have x9 : w2.cell? ⟨w1.heap.size, 9, none⟩ = some (.int .u32 xd1) := blk_cell HX2.out rfl
      have x10 : w2.cell? ⟨w1.heap.size, 10, none⟩ = some (.int .u32 xd2) := blk_cell HX2.out rfl
      have x11 : w2.cell? ⟨w1.heap.size, 11, none⟩ = some (.int .u32 xd3) := blk_cell HX2.out rfl
      have x12 : w2.cell? ⟨w1.heap.size, 12, none⟩ = some (.bool xh) := blk_cell HX2.out rfl
      go_wp2_with fail
      refine HP.out.mono ?_
      rintro r w3 ⟨a3, M3, c3, rfl, hM3, hL3, hb3⟩
      have hsm := same_any a3 ab M3 bs.length c3 cb bs bs w3 hM3 rfl hL3 (HLB2.out.step hb3) (by omega)
      rw [show decide (bs = bs) = true from decide_eq_true rfl] at hsm
      have HSM := Hid.in hsm
      have HS3 := Hid.in (HS2.out.step hb3)
      clear hM3 hL3 hb3 hsm
      clear x0 x1 x2 x3 x4 x5 x6 x7 x8 x9 x10 x11 x12
      go_wp2_with fail
      refine HSM.out.mono ?_
      rintro r w4 ⟨rfl, hb4⟩
      have HS4 := Hid.in (HS3.out.step hb4)
      clear hb4 HSM
      go_wp2
      go_meet
      case rel => exact ⟨rfl, HS4.out⟩
    · rw [gErr_ne _ _ _ hc] at HE1
      clear hc
      obtain rfl := HE1.out
      go_wp2
      go_meet
      case rel => exact ⟨rfl, HS2.out⟩
  case rest =>
    obtain ⟨rfl, hcs⟩ := hcut
    rename World => w5
    have HS5 := Hid.in hcs
    clear hcs HX2 HE1 HG HS2 HLB2
    have x0 : w5.cell? ⟨w.heap.size, 0, none⟩ = some (.int .i64 k) := blk_cell HS5.out.bA rfl
    have x1 : w5.cell? ⟨w.heap.size, 1, none⟩ = some (.int .i64 c) := blk_cell HS5.out.bA rfl
    have x2 : w5.cell? ⟨w.heap.size, 2, none⟩ = some (.int .i64 l) := blk_cell HS5.out.bA rfl
    have x3 : w5.cell? ⟨w.heap.size, 3, none⟩ = some (.int .i64 t) := blk_cell HS5.out.bA rfl
    have x4 : w5.cell? ⟨w.heap.size, 4, none⟩ = some (.int .i64 o) := blk_cell HS5.out.bA rfl
    have x5 : w5.cell? ⟨w.heap.size, 5, none⟩ = some (.int .i64 e) := blk_cell HS5.out.bA rfl
    have x6 : w5.cell? ⟨w.heap.size, 6, none⟩ = some (.int .i64 w_) := blk_cell HS5.out.bA rfl
    have x7 : w5.cell? ⟨w.heap.size, 7, none⟩ = some (.int .u32 v) := blk_cell HS5.out.bA rfl
    have x8 : w5.cell? ⟨w.heap.size, 8, none⟩ = some (.int .u32 d0) := blk_cell HS5.out.bA rfl
    have x9 : w5.cell? ⟨w.heap.size, 9, none⟩ = some (.int .u32 d1) := blk_cell HS5.out.bA rfl
    have x10 : w5.cell? ⟨w.heap.size, 10, none⟩ = some (.int .u32 d2) := blk_cell HS5.out.bA rfl
    have x11 : w5.cell? ⟨w.heap.size, 11, none⟩ = some (.int .u32 d3) := blk_cell HS5.out.bA rfl
    have x12 : w5.cell? ⟨w.heap.size, 12, none⟩ = some (.bool h) := blk_cell HS5.out.bA rfl
    have hp := sPut_any (k, c, l, t, o, e, w_, v, d0, d1, d2, d3, h) w5 H32.out H64.out
    rw [if_pos HX.out] at hp
    simp only [mv] at hp
    go_wp2_with fail
    refine hp.mono ?_
    rintro r w6 ⟨a1, M1, c1, rfl, hM, hL, hb⟩
    have E1 := Hid.in hM
    have HL1 := Hid.in hL
    have m1 : 1 ≤ M1 ∧ M1 ≤ 110 := by rw [hM]; exact ⟨(encM_len _ H32.out H64.out).2, (encM_len _ H32.out H64.out).1⟩
    obtain ⟨m10, m11⟩ := m1
    have m1' : ¬ ((M1 : Int) = 0) := by omega
    have m1b : ((M1 : Int) == 0) = false := by simpa using m1'
    clear hM hL hp
    clear x0 x1 x2 x3 x4 x5 x6 x7 x8 x9 x10 x11 x12
    have HS6 := Hid.in (HS5.out.step hb)
    clear hb
    have x0 : w6.cell? ⟨w.heap.size, 0, none⟩ = some (.int .i64 k) := blk_cell HS6.out.bA rfl
    have x1 : w6.cell? ⟨w.heap.size, 1, none⟩ = some (.int .i64 c) := blk_cell HS6.out.bA rfl
    have x2 : w6.cell? ⟨w.heap.size, 2, none⟩ = some (.int .i64 l) := blk_cell HS6.out.bA rfl
    have x3 : w6.cell? ⟨w.heap.size, 3, none⟩ = some (.int .i64 t) := blk_cell HS6.out.bA rfl
    have x4 : w6.cell? ⟨w.heap.size, 4, none⟩ = some (.int .i64 o) := blk_cell HS6.out.bA rfl
    have x5 : w6.cell? ⟨w.heap.size, 5, none⟩ = some (.int .i64 e) := blk_cell HS6.out.bA rfl
    have x6 : w6.cell? ⟨w.heap.size, 6, none⟩ = some (.int .i64 w_) := blk_cell HS6.out.bA rfl
    have x7 : w6.cell? ⟨w.heap.size, 7, none⟩ = some (.int .u32 v) := blk_cell HS6.out.bA rfl
    have x8 : w6.cell? ⟨w.heap.size, 8, none⟩ = some (.int .u32 d0) := blk_cell HS6.out.bA rfl
    have x9 : w6.cell? ⟨w.heap.size, 9, none⟩ = some (.int .u32 d1) := blk_cell HS6.out.bA rfl
    have x10 : w6.cell? ⟨w.heap.size, 10, none⟩ = some (.int .u32 d2) := blk_cell HS6.out.bA rfl
    have x11 : w6.cell? ⟨w.heap.size, 11, none⟩ = some (.int .u32 d3) := blk_cell HS6.out.bA rfl
    have x12 : w6.cell? ⟨w.heap.size, 12, none⟩ = some (.bool h) := blk_cell HS6.out.bA rfl
    have hr := sRight_any (k, c, l, t, o, e, w_, v, d0, d1, d2, d3, h) w6 H32.out H64.out
    rw [HX.out] at hr
    simp only [mv] at hr
    go_wp2_with fail
    refine hr.mono ?_
    rintro r w7 ⟨rfl, hb⟩
    clear hr
    clear x0 x1 x2 x3 x4 x5 x6 x7 x8 x9 x10 x11 x12
    have HS7 := Hid.in (HS6.out.step hb)
    have HLx := Hid.in (HL1.out.step hb)
    clear HL1
    have HL1 := HLx
    clear HLx
    clear hb
    have hg1 := fun WW hE2 hL2 => sGet_any a1 M1 c1 (encM (k, c, l, t, o, e, w_, v, d0, d1, d2, d3, h)) WW sa hE2 E1.out hL2 (encM_byte _) (by rw [← E1.out]; omega)
    rw [gotM_enc _ H32.out ((rtB_iff _).1 HX.out)] at hg1
    simp only [mv, gErr_zero] at hg1
    have HG1 := Hid.in hg1
    clear hg1
    go_wp2_with fail
    refine (HG1.out _ (HE.out.below HS7.out.be) HL1.out).mono ?_
    rintro r w11 ⟨_, rfl, hb, _⟩
    have hb2 := bstep hb (Nat.le_refl _) (below_alloc w11 (.cells #[.int .i64 k, .int .i64 c, .int .i64 l, .int .i64 t, .int .i64 o, .int .i64 e, .int .i64 w_, .int .u32 v, .int .u32 d0, .int .u32 d1, .int .u32 d2, .int .u32 d3, .bool h] 28))
    have HS12 : Hid (SM3 w #[.int .i64 k, .int .i64 c, .int .i64 l, .int .i64 t, .int .i64 o, .int .i64 e, .int .i64 w_, .int .u32 v, .int .u32 d0, .int .u32 d1, .int .u32 d2, .int .u32 d3, .bool h] #[.int .i64 nk, .int .i64 nc, .int .i64 nl, .int .i64 nt, .int .i64 no, .int .i64 ne, .int .i64 nw, .int .u32 nv, .int .u32 nd0, .int .u32 nd1, .int .u32 nd2, .int .u32 nd3, .bool nh] #[.int .i64 k, .int .i64 c, .int .i64 l, .int .i64 t, .int .i64 o, .int .i64 e, .int .i64 w_, .int .u32 v, .int .u32 d0, .int .u32 d1, .int .u32 d2, .int .u32 d3, .bool h] w11.heap.size (w11.alloc (.cells #[.int .i64 k, .int .i64 c, .int .i64 l, .int .i64 t, .int .i64 o, .int .i64 e, .int .i64 w_, .int .u32 v, .int .u32 d0, .int .u32 d1, .int .u32 d2, .int .u32 d3, .bool h] 28))) := Hid.in ⟨HS7.out.step hb2, heap_alloc_new _ _⟩
    have HLx := Hid.in (HL1.out.step hb2)
    clear hb hb2 HL1 HG1 HS7
    have HL1 := HLx
    clear HLx
    go_upto_region 8 with fail
    generalize hX : w11.alloc (.cells #[.int .i64 k, .int .i64 c, .int .i64 l, .int .i64 t, .int .i64 o, .int .i64 e, .int .i64 w_, .int .u32 v, .int .u32 d0, .int .u32 d1, .int .u32 d2, .int .u32 d3, .bool h] 28) = w12 at *
    clear hX
    go_wp2_with fail
    refine (within_i cut 0 ((M1 : Int) - 1) w12 (by decide) (by omega) (by omega)).mono ?_
    obtain ⟨kk, hkk, hkM⟩ : ∃ kk : Nat, wI cut 0 ((M1 : Int) - 1) = (kk : Int) ∧ kk < M1 := ⟨(wI cut 0 ((M1 : Int) - 1)).toNat, by have := wI_le cut 0 ((M1 : Int) - 1) (by omega); omega, by have := wI_le cut 0 ((M1 : Int) - 1) (by omega); omega⟩
    rw [hkk]
    clear hkk
    rintro r w13 ⟨rfl, rfl⟩
    have hsl := slice_toB a1 M1 c1 kk (by have := HL1.out.1; have := E1.out; omega)
    have HTK : Hid (kk = ((encM (k, c, l, t, o, e, w_, v, d0, d1, d2, d3, h)).take kk).length) := Hid.in (by rw [List.length_take]; have := E1.out; omega)
    have HCUT := Hid.in (gotM_cut (k, c, l, t, o, e, w_, v, d0, d1, d2, d3, h) H32.out ((rtB_iff _).1 HX.out) kk (by have := E1.out; omega))
    have hg2 := fun WW hE2 hL2 => sGet_any a1 kk c1 ((encM (k, c, l, t, o, e, w_, v, d0, d1, d2, d3, h)).take kk) WW sa hE2 HTK.out hL2 (fun x hx => encM_byte _ x (List.mem_of_mem_take hx)) (by rw [← HTK.out]; omega)
    rcases hz : gotM ((encM (k, c, l, t, o, e, w_, v, d0, d1, d2, d3, h)).take kk) with ⟨cz, xz⟩
    rw [hz] at HCUT hg2
    clear hz
    obtain ⟨zk, zc, zl, zt, zo, ze, zw, zv, zd0, zd1, zd2, zd3, zh⟩ := xz
    simp only [mv] at hg2
    have HG2 := Hid.in hg2
    clear hg2
    go_wp2_with fail
    refine (HG2.out _ (HE.out.below HS12.out.s.be) (HL1.out.take kk)).mono ?_
    rintro r w14 ⟨l14, rfl, hb, _⟩
    rw [gErr_ne _ _ _ HCUT.out]
    have hb2 := bstep hb (Nat.le_refl _) (below_alloc w14 (.cells #[.int .i64 zk, .int .i64 zc, .int .i64 zl, .int .i64 zt, .int .i64 zo, .int .i64 ze, .int .i64 zw, .int .u32 zv, .int .u32 zd0, .int .u32 zd1, .int .u32 zd2, .int .u32 zd3, .bool zh] 28))
    have HS15 := Hid.in (HS12.out.step hb2)
    have HLx := Hid.in (HL1.out.step hb2)
    clear hb hb2 HL1 HG2 HS12 HTK hsl
    have HL1 := HLx
    clear HLx
    go_upto_region 9 with fail
    generalize hX : w14.alloc (.cells #[.int .i64 zk, .int .i64 zc, .int .i64 zl, .int .i64 zt, .int .i64 zo, .int .i64 ze, .int .i64 zw, .int .u32 zv, .int .u32 zd0, .int .u32 zd1, .int .u32 zd2, .int .u32 zd3, .bool zh] 28) = w15 at *
    clear hX
    have he1 := fun w => eq_msgIn' (k, c, l, t, o, e, w_, v, d0, d1, d2, d3, h) (k, c, l, t, o, e, w_, v, d0, d1, d2, d3, h) w
    rw [eqB_self] at he1
    simp only [mv] at he1
    have HFA : Hid (∀ W, SM3 w #[.int .i64 k, .int .i64 c, .int .i64 l, .int .i64 t, .int .i64 o, .int .i64 e, .int .i64 w_, .int .u32 v, .int .u32 d0, .int .u32 d1, .int .u32 d2, .int .u32 d3, .bool h] #[.int .i64 nk, .int .i64 nc, .int .i64 nl, .int .i64 nt, .int .i64 no, .int .i64 ne, .int .i64 nw, .int .u32 nv, .int .u32 nd0, .int .u32 nd1, .int .u32 nd2, .int .u32 nd3, .bool nh] #[.int .i64 k, .int .i64 c, .int .i64 l, .int .i64 t, .int .i64 o, .int .i64 e, .int .i64 w_, .int .u32 v, .int .u32 d0, .int .u32 d1, .int .u32 d2, .int .u32 d3, .bool h] w11.heap.size W → W.cell? ⟨w.heap.size, 0, none⟩ = some (.int .i64 k) ∧ W.cell? ⟨w.heap.size, 1, none⟩ = some (.int .i64 c) ∧ W.cell? ⟨w.heap.size, 2, none⟩ = some (.int .i64 l) ∧ W.cell? ⟨w.heap.size, 3, none⟩ = some (.int .i64 t) ∧ W.cell? ⟨w.heap.size, 4, none⟩ = some (.int .i64 o) ∧ W.cell? ⟨w.heap.size, 5, none⟩ = some (.int .i64 e) ∧ W.cell? ⟨w.heap.size, 6, none⟩ = some (.int .i64 w_) ∧ W.cell? ⟨w.heap.size, 7, none⟩ = some (.int .u32 v) ∧ W.cell? ⟨w.heap.size, 8, none⟩ = some (.int .u32 d0) ∧ W.cell? ⟨w.heap.size, 9, none⟩ = some (.int .u32 d1) ∧ W.cell? ⟨w.heap.size, 10, none⟩ = some (.int .u32 d2) ∧ W.cell? ⟨w.heap.size, 11, none⟩ = some (.int .u32 d3) ∧ W.cell? ⟨w.heap.size, 12, none⟩ = some (.bool h)) := Hid.in (fun W h => ⟨blk_cell h.s.bA rfl, blk_cell h.s.bA rfl, blk_cell h.s.bA rfl, blk_cell h.s.bA rfl, blk_cell h.s.bA rfl, blk_cell h.s.bA rfl, blk_cell h.s.bA rfl, blk_cell h.s.bA rfl, blk_cell h.s.bA rfl, blk_cell h.s.bA rfl, blk_cell h.s.bA rfl, blk_cell h.s.bA rfl, blk_cell h.s.bA rfl⟩)
    have HFB : Hid (∀ W, SM3 w #[.int .i64 k, .int .i64 c, .int .i64 l, .int .i64 t, .int .i64 o, .int .i64 e, .int .i64 w_, .int .u32 v, .int .u32 d0, .int .u32 d1, .int .u32 d2, .int .u32 d3, .bool h] #[.int .i64 nk, .int .i64 nc, .int .i64 nl, .int .i64 nt, .int .i64 no, .int .i64 ne, .int .i64 nw, .int .u32 nv, .int .u32 nd0, .int .u32 nd1, .int .u32 nd2, .int .u32 nd3, .bool nh] #[.int .i64 k, .int .i64 c, .int .i64 l, .int .i64 t, .int .i64 o, .int .i64 e, .int .i64 w_, .int .u32 v, .int .u32 d0, .int .u32 d1, .int .u32 d2, .int .u32 d3, .bool h] w11.heap.size W → W.cell? ⟨w.heap.size + 1, 0, none⟩ = some (.int .i64 nk) ∧ W.cell? ⟨w.heap.size + 1, 1, none⟩ = some (.int .i64 nc) ∧ W.cell? ⟨w.heap.size + 1, 2, none⟩ = some (.int .i64 nl) ∧ W.cell? ⟨w.heap.size + 1, 3, none⟩ = some (.int .i64 nt) ∧ W.cell? ⟨w.heap.size + 1, 4, none⟩ = some (.int .i64 no) ∧ W.cell? ⟨w.heap.size + 1, 5, none⟩ = some (.int .i64 ne) ∧ W.cell? ⟨w.heap.size + 1, 6, none⟩ = some (.int .i64 nw) ∧ W.cell? ⟨w.heap.size + 1, 7, none⟩ = some (.int .u32 nv) ∧ W.cell? ⟨w.heap.size + 1, 8, none⟩ = some (.int .u32 nd0) ∧ W.cell? ⟨w.heap.size + 1, 9, none⟩ = some (.int .u32 nd1) ∧ W.cell? ⟨w.heap.size + 1, 10, none⟩ = some (.int .u32 nd2) ∧ W.cell? ⟨w.heap.size + 1, 11, none⟩ = some (.int .u32 nd3) ∧ W.cell? ⟨w.heap.size + 1, 12, none⟩ = some (.bool nh)) := Hid.in (fun W h => ⟨blk_cell h.s.bB rfl, blk_cell h.s.bB rfl, blk_cell h.s.bB rfl, blk_cell h.s.bB rfl, blk_cell h.s.bB rfl, blk_cell h.s.bB rfl, blk_cell h.s.bB rfl, blk_cell h.s.bB rfl, blk_cell h.s.bB rfl, blk_cell h.s.bB rfl, blk_cell h.s.bB rfl, blk_cell h.s.bB rfl, blk_cell h.s.bB rfl⟩)
    have HFC : Hid (∀ W, SM3 w #[.int .i64 k, .int .i64 c, .int .i64 l, .int .i64 t, .int .i64 o, .int .i64 e, .int .i64 w_, .int .u32 v, .int .u32 d0, .int .u32 d1, .int .u32 d2, .int .u32 d3, .bool h] #[.int .i64 nk, .int .i64 nc, .int .i64 nl, .int .i64 nt, .int .i64 no, .int .i64 ne, .int .i64 nw, .int .u32 nv, .int .u32 nd0, .int .u32 nd1, .int .u32 nd2, .int .u32 nd3, .bool nh] #[.int .i64 k, .int .i64 c, .int .i64 l, .int .i64 t, .int .i64 o, .int .i64 e, .int .i64 w_, .int .u32 v, .int .u32 d0, .int .u32 d1, .int .u32 d2, .int .u32 d3, .bool h] w11.heap.size W → W.cell? ⟨w11.heap.size, 0, none⟩ = some (.int .i64 k) ∧ W.cell? ⟨w11.heap.size, 1, none⟩ = some (.int .i64 c) ∧ W.cell? ⟨w11.heap.size, 2, none⟩ = some (.int .i64 l) ∧ W.cell? ⟨w11.heap.size, 3, none⟩ = some (.int .i64 t) ∧ W.cell? ⟨w11.heap.size, 4, none⟩ = some (.int .i64 o) ∧ W.cell? ⟨w11.heap.size, 5, none⟩ = some (.int .i64 e) ∧ W.cell? ⟨w11.heap.size, 6, none⟩ = some (.int .i64 w_) ∧ W.cell? ⟨w11.heap.size, 7, none⟩ = some (.int .u32 v) ∧ W.cell? ⟨w11.heap.size, 8, none⟩ = some (.int .u32 d0) ∧ W.cell? ⟨w11.heap.size, 9, none⟩ = some (.int .u32 d1) ∧ W.cell? ⟨w11.heap.size, 10, none⟩ = some (.int .u32 d2) ∧ W.cell? ⟨w11.heap.size, 11, none⟩ = some (.int .u32 d3) ∧ W.cell? ⟨w11.heap.size, 12, none⟩ = some (.bool h)) := Hid.in (fun W h => ⟨blk_cell h.bC rfl, blk_cell h.bC rfl, blk_cell h.bC rfl, blk_cell h.bC rfl, blk_cell h.bC rfl, blk_cell h.bC rfl, blk_cell h.bC rfl, blk_cell h.bC rfl, blk_cell h.bC rfl, blk_cell h.bC rfl, blk_cell h.bC rfl, blk_cell h.bC rfl, blk_cell h.bC rfl⟩)
    have he2 := fun w => eq_msgIn' (k, c, l, t, o, e, w_, v, d0, d1, d2, d3, h) (nk, nc, nl, nt, no, ne, nw, nv, nd0, nd1, nd2, nd3, nh) w
    obtain ⟨bb, hbb⟩ : ∃ bb, eqB (k, c, l, t, o, e, w_, v, d0, d1, d2, d3, h) (nk, nc, nl, nt, no, ne, nw, nv, nd0, nd1, nd2, nd3, nh) = bb := ⟨_, rfl⟩
    rw [hbb] at he2
    simp only [mv] at he2
    have HBB : Hid (decide (encM (k, c, l, t, o, e, w_, v, d0, d1, d2, d3, h) = encM (nk, nc, nl, nt, no, ne, nw, nv, nd0, nd1, nd2, nd3, nh)) = bb) := Hid.in ((eqB_bytes _ _ H32.out ((rtB_iff _).1 HX.out) G32.out ((rtB_iff _).1 HY.out)).trans hbb)
    clear hbb
    have hr := fun W => sRight_any (nk, nc, nl, nt, no, ne, nw, nv, nd0, nd1, nd2, nd3, nh) W G32.out G64.out
    rw [HY.out] at hr
    have hp := fun W => sPut_ok (nk, nc, nl, nt, no, ne, nw, nv, nd0, nd1, nd2, nd3, nh) W G32.out ((rtB_iff _).1 HY.out)
    simp only [mv] at hr hp
    have HR := Hid.in hr
    have HP := Hid.in hp
    clear hr hp
    have HS : Hid (SM3 w #[.int .i64 k, .int .i64 c, .int .i64 l, .int .i64 t, .int .i64 o, .int .i64 e, .int .i64 w_, .int .u32 v, .int .u32 d0, .int .u32 d1, .int .u32 d2, .int .u32 d3, .bool h] #[.int .i64 nk, .int .i64 nc, .int .i64 nl, .int .i64 nt, .int .i64 no, .int .i64 ne, .int .i64 nw, .int .u32 nv, .int .u32 nd0, .int .u32 nd1, .int .u32 nd2, .int .u32 nd3, .bool nh] #[.int .i64 k, .int .i64 c, .int .i64 l, .int .i64 t, .int .i64 o, .int .i64 e, .int .i64 w_, .int .u32 v, .int .u32 d0, .int .u32 d1, .int .u32 d2, .int .u32 d3, .bool h] w11.heap.size w15.drew) := Hid.in (HS15.out.step (Below.refl _ _).drew)
    have HL15 := Hid.in (HL1.out.step (Below.refl _ _).drew)
    clear HL1 HS15
    refine wp_region_but (SM3 w #[.int .i64 k, .int .i64 c, .int .i64 l, .int .i64 t, .int .i64 o, .int .i64 e, .int .i64 w_, .int .u32 v, .int .u32 d0, .int .u32 d1, .int .u32 d2, .int .u32 d3, .bool h] #[.int .i64 nk, .int .i64 nc, .int .i64 nl, .int .i64 nt, .int .i64 no, .int .i64 ne, .int .i64 nw, .int .u32 nv, .int .u32 nd0, .int .u32 nd1, .int .u32 nd2, .int .u32 nd3, .bool nh] #[.int .i64 k, .int .i64 c, .int .i64 l, .int .i64 t, .int .i64 o, .int .i64 e, .int .i64 w_, .int .u32 v, .int .u32 d0, .int .u32 d1, .int .u32 d2, .int .u32 d3, .bool h] w11.heap.size) 29 (by kernel_rfl) ?_
    refine wpBut_take (i := 0) (v := ?_) rfl (by kernel_rfl) (by kernel_rfl) (by exact fun _ _ _ h => h) HS.out (Or.inl ⟨by rfl, ?_⟩) ?_
    case refine_2 => (intro W _; go_simp; try with_reducible rfl)
    simp only [Act.put, List.setIfInBounds_toArray, List.set_cons_zero, List.set_cons_succ]
    refine wpBut_take (i := 1) (v := ?_) rfl (by kernel_rfl) (by kernel_rfl) (by exact fun _ _ _ h => h) HS.out (Or.inl ⟨by rfl, ?_⟩) ?_
    case refine_2 => (intro W _; go_simp; try with_reducible rfl)
    simp only [Act.put, List.setIfInBounds_toArray, List.set_cons_zero, List.set_cons_succ]
    refine wpBut_take (i := 2) (v := ?_) rfl (by kernel_rfl) (by kernel_rfl) (by exact fun _ _ _ h => h) HS.out (Or.inl ⟨by rfl, ?_⟩) ?_
    case refine_2 => (intro W _; go_simp; try with_reducible rfl)
    simp only [Act.put, List.setIfInBounds_toArray, List.set_cons_zero, List.set_cons_succ]
    refine wpBut_take (i := 3) (v := ?_) rfl (by kernel_rfl) (by kernel_rfl) (by exact fun _ _ _ h => h) HS.out (Or.inl ⟨by rfl, ?_⟩) ?_
    case refine_2 => (intro W hSw; obtain ⟨s0, s1, s2, s3, s4, s5, s6, s7, s8, s9, s10, s11, s12⟩ := HFC.out W hSw; go_simp; try with_reducible rfl)
    simp only [Act.put, List.setIfInBounds_toArray, List.set_cons_zero, List.set_cons_succ]
    refine wpBut_take (i := 4) (v := ?_) rfl (by kernel_rfl) (by kernel_rfl) (by exact fun _ _ _ h => h) HS.out (Or.inl ⟨by rfl, ?_⟩) ?_
    case refine_2 => (intro W hSw; obtain ⟨s0, s1, s2, s3, s4, s5, s6, s7, s8, s9, s10, s11, s12⟩ := HFA.out W hSw; go_simp; try with_reducible rfl)
    simp only [Act.put, List.setIfInBounds_toArray, List.set_cons_zero, List.set_cons_succ]
    refine wpBut_take (i := 5) (v := ?_) rfl (by kernel_rfl) (by kernel_rfl) (by exact fun _ _ _ h => h) HS.out (Or.inl ⟨by rfl, ?_⟩) ?_
    case refine_2 => (intro W _; go_simp; try with_reducible rfl)
    simp only [Act.put, List.setIfInBounds_toArray, List.set_cons_zero, List.set_cons_succ]
    refine wpBut_take (i := 6) (v := ?_) rfl (by kernel_rfl) (by kernel_rfl) (by exact fun _ _ _ h => h) HS.out (Or.inl ⟨by rfl, ?_⟩) ?_
    case refine_2 => (intro W _; go_simp; try with_reducible rfl)
    simp only [Act.put, List.setIfInBounds_toArray, List.set_cons_zero, List.set_cons_succ]
    refine wpBut_take (i := 7) (v := ?_) rfl (by kernel_rfl) (by kernel_rfl) (by exact fun _ _ _ h => h) HS.out (Or.inl ⟨by rfl, ?_⟩) ?_
    case refine_2 => (intro W _; go_simp; try with_reducible rfl)
    simp only [Act.put, List.setIfInBounds_toArray, List.set_cons_zero, List.set_cons_succ]
    refine wpBut_take (i := 8) (v := ?_) rfl (by kernel_rfl) (by kernel_rfl) (by exact fun _ _ _ h => h) HS.out (Or.inl ⟨by rfl, ?_⟩) ?_
    case refine_2 => (intro W _; go_simp; try with_reducible rfl)
    simp only [Act.put, List.setIfInBounds_toArray, List.set_cons_zero, List.set_cons_succ]
    refine wpBut_take (i := 9) (v := ?_) rfl (by kernel_rfl) (by kernel_rfl) (by exact fun _ _ _ h => h) HS.out (Or.inl ⟨by rfl, ?_⟩) ?_
    case refine_2 => (intro W _; go_simp; try with_reducible rfl)
    simp only [Act.put, List.setIfInBounds_toArray, List.set_cons_zero, List.set_cons_succ]
    refine wpBut_take (i := 10) (v := ?_) rfl (by kernel_rfl) (by kernel_rfl) (by exact fun _ _ _ h => h) HS.out (Or.inl ⟨by rfl, ?_⟩) ?_
    case refine_2 => (intro W _; go_simp; try with_reducible rfl)
    simp only [Act.put, List.setIfInBounds_toArray, List.set_cons_zero, List.set_cons_succ]
    refine wpBut_take (i := 11) (v := ?_) rfl (by kernel_rfl) (by kernel_rfl) (by exact fun _ _ _ h => h) HS.out (Or.inl ⟨by rfl, ?_⟩) ?_
    case refine_2 => (intro W _; go_simp; try with_reducible rfl)
    simp only [Act.put, List.setIfInBounds_toArray, List.set_cons_zero, List.set_cons_succ]
    refine wpBut_take (i := 12) (v := ?_) rfl (by kernel_rfl) (by kernel_rfl) (by exact fun _ _ _ h => h) HS.out (Or.inl ⟨by rfl, ?_⟩) ?_
    case refine_2 => (intro W hSw; obtain ⟨s0, s1, s2, s3, s4, s5, s6, s7, s8, s9, s10, s11, s12⟩ := HFB.out W hSw; go_simp; try with_reducible rfl)
    simp only [Act.put, List.setIfInBounds_toArray, List.set_cons_zero, List.set_cons_succ]
    refine wpBut_one (i := 13) rfl (by kernel_rfl) (fun K HK => ?_)
    go_simp
    refine (HR.out _).mono ?_
    rintro r w16 ⟨rfl, hb⟩
    have HSn : Hid (SM3 w #[.int .i64 k, .int .i64 c, .int .i64 l, .int .i64 t, .int .i64 o, .int .i64 e, .int .i64 w_, .int .u32 v, .int .u32 d0, .int .u32 d1, .int .u32 d2, .int .u32 d3, .bool h] #[.int .i64 nk, .int .i64 nc, .int .i64 nl, .int .i64 nt, .int .i64 no, .int .i64 ne, .int .i64 nw, .int .u32 nv, .int .u32 nd0, .int .u32 nd1, .int .u32 nd2, .int .u32 nd3, .bool nh] #[.int .i64 k, .int .i64 c, .int .i64 l, .int .i64 t, .int .i64 o, .int .i64 e, .int .i64 w_, .int .u32 v, .int .u32 d0, .int .u32 d1, .int .u32 d2, .int .u32 d3, .bool h] w11.heap.size w16) := Hid.in (HS.out.step hb)
    have HL16 := Hid.in (HL15.out.step hb)
    clear HL15
    clear hb
    refine HK.out _ _ (fun _ => HSn.out) ?_
    clear HK K HS
    have HS := HSn
    clear HSn
    try simp only [Act.put, List.setIfInBounds_toArray, List.set_cons_zero, List.set_cons_succ]
    refine wpBut_take (i := 14) (v := ?_) rfl (by kernel_rfl) (by kernel_rfl) (by exact fun _ _ _ h => h) HS.out (Or.inl ⟨by rfl, ?_⟩) ?_
    case refine_2 => (intro W _; go_simp; try with_reducible rfl)
    simp only [Act.put, List.setIfInBounds_toArray, List.set_cons_zero, List.set_cons_succ]
    refine wpBut_take (i := 15) (v := ?_) rfl (by kernel_rfl) (by kernel_rfl) (by exact fun _ _ _ h => h) HS.out (Or.inl ⟨by rfl, ?_⟩) ?_
    case refine_2 => (intro W _; go_simp; try with_reducible rfl)
    simp only [Act.put, List.setIfInBounds_toArray, List.set_cons_zero, List.set_cons_succ]
    refine wpBut_take (i := 16) (v := ?_) rfl (by kernel_rfl) (by kernel_rfl) (by exact fun _ _ _ h => h) HS.out (Or.inl ⟨by rfl, ?_⟩) ?_
    case refine_2 => (intro W _; go_simp; try with_reducible rfl)
    simp only [Act.put, List.setIfInBounds_toArray, List.set_cons_zero, List.set_cons_succ]
    refine wpBut_take (i := 17) (v := ?_) rfl (by kernel_rfl) (by kernel_rfl) (by exact fun _ _ _ h => h) HS.out (Or.inl ⟨by rfl, ?_⟩) ?_
    case refine_2 => (intro W hSw; obtain ⟨s0, s1, s2, s3, s4, s5, s6, s7, s8, s9, s10, s11, s12⟩ := HFB.out W hSw; go_simp; try with_reducible rfl)
    simp only [Act.put, List.setIfInBounds_toArray, List.set_cons_zero, List.set_cons_succ]
    refine wpBut_take (i := 20) (v := ?_) rfl (by kernel_rfl) (by kernel_rfl) (by exact fun _ _ _ h => h) HS.out (Or.inl ⟨by rfl, ?_⟩) ?_
    case refine_2 => (intro W hSw; obtain ⟨s0, s1, s2, s3, s4, s5, s6, s7, s8, s9, s10, s11, s12⟩ := HFA.out W hSw; go_simp; try with_reducible rfl)
    simp only [Act.put, List.setIfInBounds_toArray, List.set_cons_zero, List.set_cons_succ]
    refine wpBut_take (i := 21) (v := ?_) rfl (by kernel_rfl) (by kernel_rfl) (by exact fun _ _ _ h => h) HS.out (Or.inl ⟨by rfl, ?_⟩) ?_
    case refine_2 => (intro W hSw; obtain ⟨s0, s1, s2, s3, s4, s5, s6, s7, s8, s9, s10, s11, s12⟩ := HFB.out W hSw; go_simp; try with_reducible rfl)
    simp only [Act.put, List.setIfInBounds_toArray, List.set_cons_zero, List.set_cons_succ]
    refine wpBut_take (i := 22) (v := ?_) rfl (by kernel_rfl) (by kernel_rfl) (by exact fun _ _ _ h => h) HS.out (Or.inl ⟨by rfl, ?_⟩) ?_
    case refine_2 => (intro W _; go_simp; try with_reducible rfl)
    simp only [Act.put, List.setIfInBounds_toArray, List.set_cons_zero, List.set_cons_succ]
    refine wpBut_one (i := 18) rfl (by kernel_rfl) (fun K HK => ?_)
    go_simp
    refine (HP.out _).mono ?_
    rintro r w17 ⟨a2, M2, c2, rfl, hM2, hL2, hb⟩
    have HSn : Hid (SM3 w #[.int .i64 k, .int .i64 c, .int .i64 l, .int .i64 t, .int .i64 o, .int .i64 e, .int .i64 w_, .int .u32 v, .int .u32 d0, .int .u32 d1, .int .u32 d2, .int .u32 d3, .bool h] #[.int .i64 nk, .int .i64 nc, .int .i64 nl, .int .i64 nt, .int .i64 no, .int .i64 ne, .int .i64 nw, .int .u32 nv, .int .u32 nd0, .int .u32 nd1, .int .u32 nd2, .int .u32 nd3, .bool nh] #[.int .i64 k, .int .i64 c, .int .i64 l, .int .i64 t, .int .i64 o, .int .i64 e, .int .i64 w_, .int .u32 v, .int .u32 d0, .int .u32 d1, .int .u32 d2, .int .u32 d3, .bool h] w11.heap.size w17) := Hid.in (HS.out.step hb)
    have HL17 := Hid.in (HL16.out.step hb)
    have HL2 := Hid.in hL2
    have E2 := Hid.in hM2
    clear HL16 hL2 hM2
    clear hb
    refine HK.out _ _ (fun _ => HSn.out) ?_
    clear HK K HS
    have HS := HSn
    clear HSn
    try simp only [Act.put, List.setIfInBounds_toArray, List.set_cons_zero, List.set_cons_succ]
    have hsm := same_any a1 a2 M1 M2 c1 c2 _ _ w17 E1.out E2.out HL17.out HL2.out (by rw [← E1.out]; omega)
    rw [HBB.out] at hsm
    have HSM := Hid.in hsm
    clear hsm
    refine wpBut_one (i := 19) rfl (by kernel_rfl) (fun K HK => ?_)
    go_simp
    refine (HSM.out).mono ?_
    rintro r w18 ⟨rfl, hb⟩
    have HSn : Hid (SM3 w #[.int .i64 k, .int .i64 c, .int .i64 l, .int .i64 t, .int .i64 o, .int .i64 e, .int .i64 w_, .int .u32 v, .int .u32 d0, .int .u32 d1, .int .u32 d2, .int .u32 d3, .bool h] #[.int .i64 nk, .int .i64 nc, .int .i64 nl, .int .i64 nt, .int .i64 no, .int .i64 ne, .int .i64 nw, .int .u32 nv, .int .u32 nd0, .int .u32 nd1, .int .u32 nd2, .int .u32 nd3, .bool nh] #[.int .i64 k, .int .i64 c, .int .i64 l, .int .i64 t, .int .i64 o, .int .i64 e, .int .i64 w_, .int .u32 v, .int .u32 d0, .int .u32 d1, .int .u32 d2, .int .u32 d3, .bool h] w11.heap.size w18) := Hid.in (HS.out.step hb)
    clear hb
    refine HK.out _ _ (fun _ => HSn.out) ?_
    clear HK K HS
    have HS := HSn
    clear HSn
    try simp only [Act.put, List.setIfInBounds_toArray, List.set_cons_zero, List.set_cons_succ]
    refine wpBut_take (i := 23) (v := ?_) rfl (by kernel_rfl) (by kernel_rfl) (by exact fun _ _ _ h => h) HS.out (Or.inl ⟨by rfl, ?_⟩) ?_
    case refine_2 => (intro W _; go_simp; try with_reducible rfl)
    simp only [Act.put, List.setIfInBounds_toArray, List.set_cons_zero, List.set_cons_succ]
    refine wpBut_take (i := 24) (v := ?_) rfl (by kernel_rfl) (by kernel_rfl) (by exact fun _ _ _ h => h) HS.out (Or.inl ⟨by rfl, ?_⟩) ?_
    case refine_2 => (intro W _; go_simp; try with_reducible rfl)
    simp only [Act.put, List.setIfInBounds_toArray, List.set_cons_zero, List.set_cons_succ]
    refine wpBut_take (i := 25) (v := ?_) rfl (by kernel_rfl) (by kernel_rfl) (by exact fun _ _ _ h => h) HS.out (Or.inl ⟨by rfl, ?_⟩) ?_
    case refine_2 => (intro W _; go_simp; try with_reducible rfl)
    simp only [Act.put, List.setIfInBounds_toArray, List.set_cons_zero, List.set_cons_succ]
    refine wpBut_take (i := 26) (v := ?_) rfl (by kernel_rfl) (by kernel_rfl) (by exact fun _ _ _ h => h) HS.out (Or.inl ⟨by rfl, ?_⟩) ?_
    case refine_2 => (intro W _; go_simp; try with_reducible rfl)
    simp only [Act.put, List.setIfInBounds_toArray, List.set_cons_zero, List.set_cons_succ]
    refine wpBut_one (i := 27) rfl (by kernel_rfl) (fun K HK => ?_)
    go_simp
    refine (msgRuns_any _ sa (HE.out.below HS.out.s.be)).mono ?_
    rintro r w19 ⟨rfl, hb⟩
    have HSn : Hid (SM3 w #[.int .i64 k, .int .i64 c, .int .i64 l, .int .i64 t, .int .i64 o, .int .i64 e, .int .i64 w_, .int .u32 v, .int .u32 d0, .int .u32 d1, .int .u32 d2, .int .u32 d3, .bool h] #[.int .i64 nk, .int .i64 nc, .int .i64 nl, .int .i64 nt, .int .i64 no, .int .i64 ne, .int .i64 nw, .int .u32 nv, .int .u32 nd0, .int .u32 nd1, .int .u32 nd2, .int .u32 nd3, .bool nh] #[.int .i64 k, .int .i64 c, .int .i64 l, .int .i64 t, .int .i64 o, .int .i64 e, .int .i64 w_, .int .u32 v, .int .u32 d0, .int .u32 d1, .int .u32 d2, .int .u32 d3, .bool h] w11.heap.size w19) := Hid.in (HS.out.step hb)
    clear hb
    refine HK.out _ _ (fun _ => HSn.out) ?_
    clear HK K HS
    have HS := HSn
    clear HSn
    try simp only [Act.put, List.setIfInBounds_toArray, List.set_cons_zero, List.set_cons_succ]
    refine wpBut_take (i := 28) (v := ?_) rfl (by kernel_rfl) (by kernel_rfl) (by exact fun _ _ _ h => h) HS.out (Or.inl ⟨by rfl, ?_⟩) ?_
    case refine_2 => (intro W _; go_simp; try with_reducible rfl)
    simp only [Act.put, List.setIfInBounds_toArray, List.set_cons_zero, List.set_cons_succ]
    refine wpBut_one (i := 29) rfl (by kernel_rfl) (fun K HK => ?_)
    go_simp
    have HN := HS
    refine HK.out _ _ (fun h => absurd rfl h) ?_
    clear HK K HS
    refine wpBut_done (by kernel_rfl) ?_ _
    go_wp2
    go_ret
    exact ⟨by simp, HN.out.s.be⟩

theorem msgBack_any (w : World) (sa : Nat → Addr) (hE : Env10 w sa) (m : M13) (h32 : M32 m) (h64 : M64 m) (n : M13) (g32 : M32 n) (g64 : M64 n) (ab : Option Addr) (cb : Nat) (bs : List Nat) (hB : Lie w ab cb bs) (hby : ∀ x ∈ bs, x < 256) (hln : bs.length ≤ 140737488355328) (cut : Int) :
    Calls Tryd.prog 5 #[.agg (mv m), .agg (mv n), .slice ab bs.length cb, .int .i64 cut] w fun r w' => r = .returned (.bool true) ∧ Below w.heap.size w w' := by
  obtain ⟨k, c, l, t, o, e, w_, v, d0, d1, d2, d3, h⟩ := m
  obtain ⟨nk, nc, nl, nt, no, ne, nw, nv, nd0, nd1, nd2, nd3, nh⟩ := n
  rcases hx : rtB (k, c, l, t, o, e, w_, v, d0, d1, d2, d3, h) with _ | _
  · exact msgBack_no w sa hE k c l t o e w_ v d0 d1 d2 d3 h nk nc nl nt no ne nw nv nd0 nd1 nd2 nd3 nh h32 h64 g32 g64 ab cb bs hB hby hln cut hx
  · rcases hy : rtB (nk, nc, nl, nt, no, ne, nw, nv, nd0, nd1, nd2, nd3, nh) with _ | _
    · exact msgBack_yn w sa hE k c l t o e w_ v d0 d1 d2 d3 h nk nc nl nt no ne nw nv nd0 nd1 nd2 nd3 nh h32 h64 g32 g64 ab cb bs hB hby hln cut hx hy
    · exact msgBack_yy w sa hE k c l t o e w_ v d0 d1 d2 d3 h nk nc nl nt no ne nw nv nd0 nd1 nd2 nd3 nh h32 h64 g32 g64 ab cb bs hB hby hln cut hx hy

end Go.Proofs.YtmlmiejanfcopaaDoor

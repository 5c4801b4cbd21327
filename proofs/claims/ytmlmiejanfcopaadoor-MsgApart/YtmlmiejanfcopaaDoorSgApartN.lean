/- DERIVED of the program: MsgApart returns true. Own work. -/
import Derived.Test.YtmlmiejanfcopaaDoorSgTwo
namespace Go.Proofs.YtmlmiejanfcopaaDoor
open Go.RowKit Go.Extern.Stop Go.Stop Go.Extern

set_option maxHeartbeats 6400000 in
set_option maxRecDepth 20000 in
theorem msgApart_00 (w : World) (sa : Nat → Addr) (hE : Env10 w sa) (k c l t o e w_ v d0 d1 d2 d3 : Int) (h : Bool) (nk nc nl nt no ne nw nv nd0 nd1 nd2 nd3 : Int) (nh : Bool) (h32 : M32 (k, c, l, t, o, e, w_, v, d0, d1, d2, d3, h)) (h64 : M64 (k, c, l, t, o, e, w_, v, d0, d1, d2, d3, h)) (g32 : M32 (nk, nc, nl, nt, no, ne, nw, nv, nd0, nd1, nd2, nd3, nh)) (g64 : M64 (nk, nc, nl, nt, no, ne, nw, nv, nd0, nd1, nd2, nd3, nh)) (hx : rtB (k, c, l, t, o, e, w_, v, d0, d1, d2, d3, h) = false) (hy : rtB (nk, nc, nl, nt, no, ne, nw, nv, nd0, nd1, nd2, nd3, nh) = false) :
    Calls Tryd.prog 8 #[.agg #[.int .i64 k, .int .i64 c, .int .i64 l, .int .i64 t, .int .i64 o, .int .i64 e, .int .i64 w_, .int .u32 v, .int .u32 d0, .int .u32 d1, .int .u32 d2, .int .u32 d3, .bool h], .agg #[.int .i64 nk, .int .i64 nc, .int .i64 nl, .int .i64 nt, .int .i64 no, .int .i64 ne, .int .i64 nw, .int .u32 nv, .int .u32 nd0, .int .u32 nd1, .int .u32 nd2, .int .u32 nd3, .bool nh]] w fun r w' => r = .returned (.bool true) ∧ Below w.heap.size w w' := by
  have HX := Hid.in hx
  have HY := Hid.in hy
  clear hx hy
  have HE := Hid.in hE
  have H32 := Hid.in h32
  have H64 := Hid.in h64
  have G32 := Hid.in g32
  have G64 := Hid.in g64
  clear hE h32 h64 g32 g64
  have HS0 : Hid (SM2 w #[.int .i64 k, .int .i64 c, .int .i64 l, .int .i64 t, .int .i64 o, .int .i64 e, .int .i64 w_, .int .u32 v, .int .u32 d0, .int .u32 d1, .int .u32 d2, .int .u32 d3, .bool h] #[.int .i64 nk, .int .i64 nc, .int .i64 nl, .int .i64 nt, .int .i64 no, .int .i64 ne, .int .i64 nw, .int .u32 nv, .int .u32 nd0, .int .u32 nd1, .int .u32 nd2, .int .u32 nd3, .bool nh] ((w.alloc (.cells #[.int .i64 k, .int .i64 c, .int .i64 l, .int .i64 t, .int .i64 o, .int .i64 e, .int .i64 w_, .int .u32 v, .int .u32 d0, .int .u32 d1, .int .u32 d2, .int .u32 d3, .bool h] 28)).alloc (.cells #[.int .i64 nk, .int .i64 nc, .int .i64 nl, .int .i64 nt, .int .i64 no, .int .i64 ne, .int .i64 nw, .int .u32 nv, .int .u32 nd0, .int .u32 nd1, .int .u32 nd2, .int .u32 nd3, .bool nh] 28))) := Hid.in (SM2.start _ _ _)
  go_enter Tryd.func8, Tryd.ntmps8
  go_upto_region 1 with fail
  generalize hX : ((w.alloc (.cells #[.int .i64 k, .int .i64 c, .int .i64 l, .int .i64 t, .int .i64 o, .int .i64 e, .int .i64 w_, .int .u32 v, .int .u32 d0, .int .u32 d1, .int .u32 d2, .int .u32 d3, .bool h] 28)).alloc (.cells #[.int .i64 nk, .int .i64 nc, .int .i64 nl, .int .i64 nt, .int .i64 no, .int .i64 ne, .int .i64 nw, .int .u32 nv, .int .u32 nd0, .int .u32 nd1, .int .u32 nd2, .int .u32 nd3, .bool nh] 28)) = W0 at *
  clear hX
  have sd : ∀ W, SM2 w #[.int .i64 k, .int .i64 c, .int .i64 l, .int .i64 t, .int .i64 o, .int .i64 e, .int .i64 w_, .int .u32 v, .int .u32 d0, .int .u32 d1, .int .u32 d2, .int .u32 d3, .bool h] #[.int .i64 nk, .int .i64 nc, .int .i64 nl, .int .i64 nt, .int .i64 no, .int .i64 ne, .int .i64 nw, .int .u32 nv, .int .u32 nd0, .int .u32 nd1, .int .u32 nd2, .int .u32 nd3, .bool nh] W → SM2 w #[.int .i64 k, .int .i64 c, .int .i64 l, .int .i64 t, .int .i64 o, .int .i64 e, .int .i64 w_, .int .u32 v, .int .u32 d0, .int .u32 d1, .int .u32 d2, .int .u32 d3, .bool h] #[.int .i64 nk, .int .i64 nc, .int .i64 nl, .int .i64 nt, .int .i64 no, .int .i64 ne, .int .i64 nw, .int .u32 nv, .int .u32 nd0, .int .u32 nd1, .int .u32 nd2, .int .u32 nd3, .bool nh] W.drew := fun W h => h.step (Below.refl _ _).drew
  have sl : ∀ (W : World) (ob : Obj), SM2 w #[.int .i64 k, .int .i64 c, .int .i64 l, .int .i64 t, .int .i64 o, .int .i64 e, .int .i64 w_, .int .u32 v, .int .u32 d0, .int .u32 d1, .int .u32 d2, .int .u32 d3, .bool h] #[.int .i64 nk, .int .i64 nc, .int .i64 nl, .int .i64 nt, .int .i64 no, .int .i64 ne, .int .i64 nw, .int .u32 nv, .int .u32 nd0, .int .u32 nd1, .int .u32 nd2, .int .u32 nd3, .bool nh] W → SM2 w #[.int .i64 k, .int .i64 c, .int .i64 l, .int .i64 t, .int .i64 o, .int .i64 e, .int .i64 w_, .int .u32 v, .int .u32 d0, .int .u32 d1, .int .u32 d2, .int .u32 d3, .bool h] #[.int .i64 nk, .int .i64 nc, .int .i64 nl, .int .i64 nt, .int .i64 no, .int .i64 ne, .int .i64 nw, .int .u32 nv, .int .u32 nd0, .int .u32 nd1, .int .u32 nd2, .int .u32 nd3, .bool nh] (W.alloc ob) := fun W ob h => h.step (below_alloc _ _)
  have p0 : ∀ W, SM2 w #[.int .i64 k, .int .i64 c, .int .i64 l, .int .i64 t, .int .i64 o, .int .i64 e, .int .i64 w_, .int .u32 v, .int .u32 d0, .int .u32 d1, .int .u32 d2, .int .u32 d3, .bool h] #[.int .i64 nk, .int .i64 nc, .int .i64 nl, .int .i64 nt, .int .i64 no, .int .i64 ne, .int .i64 nw, .int .u32 nv, .int .u32 nd0, .int .u32 nd1, .int .u32 nd2, .int .u32 nd3, .bool nh] W → W.cell? ⟨w.heap.size, 0, none⟩ = some (.int .i64 k) := fun W h => blk_cell h.bA rfl
  have p1 : ∀ W, SM2 w #[.int .i64 k, .int .i64 c, .int .i64 l, .int .i64 t, .int .i64 o, .int .i64 e, .int .i64 w_, .int .u32 v, .int .u32 d0, .int .u32 d1, .int .u32 d2, .int .u32 d3, .bool h] #[.int .i64 nk, .int .i64 nc, .int .i64 nl, .int .i64 nt, .int .i64 no, .int .i64 ne, .int .i64 nw, .int .u32 nv, .int .u32 nd0, .int .u32 nd1, .int .u32 nd2, .int .u32 nd3, .bool nh] W → W.cell? ⟨w.heap.size, 1, none⟩ = some (.int .i64 c) := fun W h => blk_cell h.bA rfl
  have p2 : ∀ W, SM2 w #[.int .i64 k, .int .i64 c, .int .i64 l, .int .i64 t, .int .i64 o, .int .i64 e, .int .i64 w_, .int .u32 v, .int .u32 d0, .int .u32 d1, .int .u32 d2, .int .u32 d3, .bool h] #[.int .i64 nk, .int .i64 nc, .int .i64 nl, .int .i64 nt, .int .i64 no, .int .i64 ne, .int .i64 nw, .int .u32 nv, .int .u32 nd0, .int .u32 nd1, .int .u32 nd2, .int .u32 nd3, .bool nh] W → W.cell? ⟨w.heap.size, 2, none⟩ = some (.int .i64 l) := fun W h => blk_cell h.bA rfl
  have p3 : ∀ W, SM2 w #[.int .i64 k, .int .i64 c, .int .i64 l, .int .i64 t, .int .i64 o, .int .i64 e, .int .i64 w_, .int .u32 v, .int .u32 d0, .int .u32 d1, .int .u32 d2, .int .u32 d3, .bool h] #[.int .i64 nk, .int .i64 nc, .int .i64 nl, .int .i64 nt, .int .i64 no, .int .i64 ne, .int .i64 nw, .int .u32 nv, .int .u32 nd0, .int .u32 nd1, .int .u32 nd2, .int .u32 nd3, .bool nh] W → W.cell? ⟨w.heap.size, 3, none⟩ = some (.int .i64 t) := fun W h => blk_cell h.bA rfl
  have p4 : ∀ W, SM2 w #[.int .i64 k, .int .i64 c, .int .i64 l, .int .i64 t, .int .i64 o, .int .i64 e, .int .i64 w_, .int .u32 v, .int .u32 d0, .int .u32 d1, .int .u32 d2, .int .u32 d3, .bool h] #[.int .i64 nk, .int .i64 nc, .int .i64 nl, .int .i64 nt, .int .i64 no, .int .i64 ne, .int .i64 nw, .int .u32 nv, .int .u32 nd0, .int .u32 nd1, .int .u32 nd2, .int .u32 nd3, .bool nh] W → W.cell? ⟨w.heap.size, 4, none⟩ = some (.int .i64 o) := fun W h => blk_cell h.bA rfl
  have p5 : ∀ W, SM2 w #[.int .i64 k, .int .i64 c, .int .i64 l, .int .i64 t, .int .i64 o, .int .i64 e, .int .i64 w_, .int .u32 v, .int .u32 d0, .int .u32 d1, .int .u32 d2, .int .u32 d3, .bool h] #[.int .i64 nk, .int .i64 nc, .int .i64 nl, .int .i64 nt, .int .i64 no, .int .i64 ne, .int .i64 nw, .int .u32 nv, .int .u32 nd0, .int .u32 nd1, .int .u32 nd2, .int .u32 nd3, .bool nh] W → W.cell? ⟨w.heap.size, 5, none⟩ = some (.int .i64 e) := fun W h => blk_cell h.bA rfl
  have p6 : ∀ W, SM2 w #[.int .i64 k, .int .i64 c, .int .i64 l, .int .i64 t, .int .i64 o, .int .i64 e, .int .i64 w_, .int .u32 v, .int .u32 d0, .int .u32 d1, .int .u32 d2, .int .u32 d3, .bool h] #[.int .i64 nk, .int .i64 nc, .int .i64 nl, .int .i64 nt, .int .i64 no, .int .i64 ne, .int .i64 nw, .int .u32 nv, .int .u32 nd0, .int .u32 nd1, .int .u32 nd2, .int .u32 nd3, .bool nh] W → W.cell? ⟨w.heap.size, 6, none⟩ = some (.int .i64 w_) := fun W h => blk_cell h.bA rfl
  have p7 : ∀ W, SM2 w #[.int .i64 k, .int .i64 c, .int .i64 l, .int .i64 t, .int .i64 o, .int .i64 e, .int .i64 w_, .int .u32 v, .int .u32 d0, .int .u32 d1, .int .u32 d2, .int .u32 d3, .bool h] #[.int .i64 nk, .int .i64 nc, .int .i64 nl, .int .i64 nt, .int .i64 no, .int .i64 ne, .int .i64 nw, .int .u32 nv, .int .u32 nd0, .int .u32 nd1, .int .u32 nd2, .int .u32 nd3, .bool nh] W → W.cell? ⟨w.heap.size, 7, none⟩ = some (.int .u32 v) := fun W h => blk_cell h.bA rfl
  have p8 : ∀ W, SM2 w #[.int .i64 k, .int .i64 c, .int .i64 l, .int .i64 t, .int .i64 o, .int .i64 e, .int .i64 w_, .int .u32 v, .int .u32 d0, .int .u32 d1, .int .u32 d2, .int .u32 d3, .bool h] #[.int .i64 nk, .int .i64 nc, .int .i64 nl, .int .i64 nt, .int .i64 no, .int .i64 ne, .int .i64 nw, .int .u32 nv, .int .u32 nd0, .int .u32 nd1, .int .u32 nd2, .int .u32 nd3, .bool nh] W → W.cell? ⟨w.heap.size, 8, none⟩ = some (.int .u32 d0) := fun W h => blk_cell h.bA rfl
  have p9 : ∀ W, SM2 w #[.int .i64 k, .int .i64 c, .int .i64 l, .int .i64 t, .int .i64 o, .int .i64 e, .int .i64 w_, .int .u32 v, .int .u32 d0, .int .u32 d1, .int .u32 d2, .int .u32 d3, .bool h] #[.int .i64 nk, .int .i64 nc, .int .i64 nl, .int .i64 nt, .int .i64 no, .int .i64 ne, .int .i64 nw, .int .u32 nv, .int .u32 nd0, .int .u32 nd1, .int .u32 nd2, .int .u32 nd3, .bool nh] W → W.cell? ⟨w.heap.size, 9, none⟩ = some (.int .u32 d1) := fun W h => blk_cell h.bA rfl
  have p10 : ∀ W, SM2 w #[.int .i64 k, .int .i64 c, .int .i64 l, .int .i64 t, .int .i64 o, .int .i64 e, .int .i64 w_, .int .u32 v, .int .u32 d0, .int .u32 d1, .int .u32 d2, .int .u32 d3, .bool h] #[.int .i64 nk, .int .i64 nc, .int .i64 nl, .int .i64 nt, .int .i64 no, .int .i64 ne, .int .i64 nw, .int .u32 nv, .int .u32 nd0, .int .u32 nd1, .int .u32 nd2, .int .u32 nd3, .bool nh] W → W.cell? ⟨w.heap.size, 10, none⟩ = some (.int .u32 d2) := fun W h => blk_cell h.bA rfl
  have p11 : ∀ W, SM2 w #[.int .i64 k, .int .i64 c, .int .i64 l, .int .i64 t, .int .i64 o, .int .i64 e, .int .i64 w_, .int .u32 v, .int .u32 d0, .int .u32 d1, .int .u32 d2, .int .u32 d3, .bool h] #[.int .i64 nk, .int .i64 nc, .int .i64 nl, .int .i64 nt, .int .i64 no, .int .i64 ne, .int .i64 nw, .int .u32 nv, .int .u32 nd0, .int .u32 nd1, .int .u32 nd2, .int .u32 nd3, .bool nh] W → W.cell? ⟨w.heap.size, 11, none⟩ = some (.int .u32 d3) := fun W h => blk_cell h.bA rfl
  have p12 : ∀ W, SM2 w #[.int .i64 k, .int .i64 c, .int .i64 l, .int .i64 t, .int .i64 o, .int .i64 e, .int .i64 w_, .int .u32 v, .int .u32 d0, .int .u32 d1, .int .u32 d2, .int .u32 d3, .bool h] #[.int .i64 nk, .int .i64 nc, .int .i64 nl, .int .i64 nt, .int .i64 no, .int .i64 ne, .int .i64 nw, .int .u32 nv, .int .u32 nd0, .int .u32 nd1, .int .u32 nd2, .int .u32 nd3, .bool nh] W → W.cell? ⟨w.heap.size, 12, none⟩ = some (.bool h) := fun W h => blk_cell h.bA rfl
  have q0 : ∀ W, SM2 w #[.int .i64 k, .int .i64 c, .int .i64 l, .int .i64 t, .int .i64 o, .int .i64 e, .int .i64 w_, .int .u32 v, .int .u32 d0, .int .u32 d1, .int .u32 d2, .int .u32 d3, .bool h] #[.int .i64 nk, .int .i64 nc, .int .i64 nl, .int .i64 nt, .int .i64 no, .int .i64 ne, .int .i64 nw, .int .u32 nv, .int .u32 nd0, .int .u32 nd1, .int .u32 nd2, .int .u32 nd3, .bool nh] W → W.cell? ⟨w.heap.size + 1, 0, none⟩ = some (.int .i64 nk) := fun W h => blk_cell h.bB rfl
  have q1 : ∀ W, SM2 w #[.int .i64 k, .int .i64 c, .int .i64 l, .int .i64 t, .int .i64 o, .int .i64 e, .int .i64 w_, .int .u32 v, .int .u32 d0, .int .u32 d1, .int .u32 d2, .int .u32 d3, .bool h] #[.int .i64 nk, .int .i64 nc, .int .i64 nl, .int .i64 nt, .int .i64 no, .int .i64 ne, .int .i64 nw, .int .u32 nv, .int .u32 nd0, .int .u32 nd1, .int .u32 nd2, .int .u32 nd3, .bool nh] W → W.cell? ⟨w.heap.size + 1, 1, none⟩ = some (.int .i64 nc) := fun W h => blk_cell h.bB rfl
  have q2 : ∀ W, SM2 w #[.int .i64 k, .int .i64 c, .int .i64 l, .int .i64 t, .int .i64 o, .int .i64 e, .int .i64 w_, .int .u32 v, .int .u32 d0, .int .u32 d1, .int .u32 d2, .int .u32 d3, .bool h] #[.int .i64 nk, .int .i64 nc, .int .i64 nl, .int .i64 nt, .int .i64 no, .int .i64 ne, .int .i64 nw, .int .u32 nv, .int .u32 nd0, .int .u32 nd1, .int .u32 nd2, .int .u32 nd3, .bool nh] W → W.cell? ⟨w.heap.size + 1, 2, none⟩ = some (.int .i64 nl) := fun W h => blk_cell h.bB rfl
  have q3 : ∀ W, SM2 w #[.int .i64 k, .int .i64 c, .int .i64 l, .int .i64 t, .int .i64 o, .int .i64 e, .int .i64 w_, .int .u32 v, .int .u32 d0, .int .u32 d1, .int .u32 d2, .int .u32 d3, .bool h] #[.int .i64 nk, .int .i64 nc, .int .i64 nl, .int .i64 nt, .int .i64 no, .int .i64 ne, .int .i64 nw, .int .u32 nv, .int .u32 nd0, .int .u32 nd1, .int .u32 nd2, .int .u32 nd3, .bool nh] W → W.cell? ⟨w.heap.size + 1, 3, none⟩ = some (.int .i64 nt) := fun W h => blk_cell h.bB rfl
  have q4 : ∀ W, SM2 w #[.int .i64 k, .int .i64 c, .int .i64 l, .int .i64 t, .int .i64 o, .int .i64 e, .int .i64 w_, .int .u32 v, .int .u32 d0, .int .u32 d1, .int .u32 d2, .int .u32 d3, .bool h] #[.int .i64 nk, .int .i64 nc, .int .i64 nl, .int .i64 nt, .int .i64 no, .int .i64 ne, .int .i64 nw, .int .u32 nv, .int .u32 nd0, .int .u32 nd1, .int .u32 nd2, .int .u32 nd3, .bool nh] W → W.cell? ⟨w.heap.size + 1, 4, none⟩ = some (.int .i64 no) := fun W h => blk_cell h.bB rfl
  have q5 : ∀ W, SM2 w #[.int .i64 k, .int .i64 c, .int .i64 l, .int .i64 t, .int .i64 o, .int .i64 e, .int .i64 w_, .int .u32 v, .int .u32 d0, .int .u32 d1, .int .u32 d2, .int .u32 d3, .bool h] #[.int .i64 nk, .int .i64 nc, .int .i64 nl, .int .i64 nt, .int .i64 no, .int .i64 ne, .int .i64 nw, .int .u32 nv, .int .u32 nd0, .int .u32 nd1, .int .u32 nd2, .int .u32 nd3, .bool nh] W → W.cell? ⟨w.heap.size + 1, 5, none⟩ = some (.int .i64 ne) := fun W h => blk_cell h.bB rfl
  have q6 : ∀ W, SM2 w #[.int .i64 k, .int .i64 c, .int .i64 l, .int .i64 t, .int .i64 o, .int .i64 e, .int .i64 w_, .int .u32 v, .int .u32 d0, .int .u32 d1, .int .u32 d2, .int .u32 d3, .bool h] #[.int .i64 nk, .int .i64 nc, .int .i64 nl, .int .i64 nt, .int .i64 no, .int .i64 ne, .int .i64 nw, .int .u32 nv, .int .u32 nd0, .int .u32 nd1, .int .u32 nd2, .int .u32 nd3, .bool nh] W → W.cell? ⟨w.heap.size + 1, 6, none⟩ = some (.int .i64 nw) := fun W h => blk_cell h.bB rfl
  have q7 : ∀ W, SM2 w #[.int .i64 k, .int .i64 c, .int .i64 l, .int .i64 t, .int .i64 o, .int .i64 e, .int .i64 w_, .int .u32 v, .int .u32 d0, .int .u32 d1, .int .u32 d2, .int .u32 d3, .bool h] #[.int .i64 nk, .int .i64 nc, .int .i64 nl, .int .i64 nt, .int .i64 no, .int .i64 ne, .int .i64 nw, .int .u32 nv, .int .u32 nd0, .int .u32 nd1, .int .u32 nd2, .int .u32 nd3, .bool nh] W → W.cell? ⟨w.heap.size + 1, 7, none⟩ = some (.int .u32 nv) := fun W h => blk_cell h.bB rfl
  have q8 : ∀ W, SM2 w #[.int .i64 k, .int .i64 c, .int .i64 l, .int .i64 t, .int .i64 o, .int .i64 e, .int .i64 w_, .int .u32 v, .int .u32 d0, .int .u32 d1, .int .u32 d2, .int .u32 d3, .bool h] #[.int .i64 nk, .int .i64 nc, .int .i64 nl, .int .i64 nt, .int .i64 no, .int .i64 ne, .int .i64 nw, .int .u32 nv, .int .u32 nd0, .int .u32 nd1, .int .u32 nd2, .int .u32 nd3, .bool nh] W → W.cell? ⟨w.heap.size + 1, 8, none⟩ = some (.int .u32 nd0) := fun W h => blk_cell h.bB rfl
  have q9 : ∀ W, SM2 w #[.int .i64 k, .int .i64 c, .int .i64 l, .int .i64 t, .int .i64 o, .int .i64 e, .int .i64 w_, .int .u32 v, .int .u32 d0, .int .u32 d1, .int .u32 d2, .int .u32 d3, .bool h] #[.int .i64 nk, .int .i64 nc, .int .i64 nl, .int .i64 nt, .int .i64 no, .int .i64 ne, .int .i64 nw, .int .u32 nv, .int .u32 nd0, .int .u32 nd1, .int .u32 nd2, .int .u32 nd3, .bool nh] W → W.cell? ⟨w.heap.size + 1, 9, none⟩ = some (.int .u32 nd1) := fun W h => blk_cell h.bB rfl
  have q10 : ∀ W, SM2 w #[.int .i64 k, .int .i64 c, .int .i64 l, .int .i64 t, .int .i64 o, .int .i64 e, .int .i64 w_, .int .u32 v, .int .u32 d0, .int .u32 d1, .int .u32 d2, .int .u32 d3, .bool h] #[.int .i64 nk, .int .i64 nc, .int .i64 nl, .int .i64 nt, .int .i64 no, .int .i64 ne, .int .i64 nw, .int .u32 nv, .int .u32 nd0, .int .u32 nd1, .int .u32 nd2, .int .u32 nd3, .bool nh] W → W.cell? ⟨w.heap.size + 1, 10, none⟩ = some (.int .u32 nd2) := fun W h => blk_cell h.bB rfl
  have q11 : ∀ W, SM2 w #[.int .i64 k, .int .i64 c, .int .i64 l, .int .i64 t, .int .i64 o, .int .i64 e, .int .i64 w_, .int .u32 v, .int .u32 d0, .int .u32 d1, .int .u32 d2, .int .u32 d3, .bool h] #[.int .i64 nk, .int .i64 nc, .int .i64 nl, .int .i64 nt, .int .i64 no, .int .i64 ne, .int .i64 nw, .int .u32 nv, .int .u32 nd0, .int .u32 nd1, .int .u32 nd2, .int .u32 nd3, .bool nh] W → W.cell? ⟨w.heap.size + 1, 11, none⟩ = some (.int .u32 nd3) := fun W h => blk_cell h.bB rfl
  have q12 : ∀ W, SM2 w #[.int .i64 k, .int .i64 c, .int .i64 l, .int .i64 t, .int .i64 o, .int .i64 e, .int .i64 w_, .int .u32 v, .int .u32 d0, .int .u32 d1, .int .u32 d2, .int .u32 d3, .bool h] #[.int .i64 nk, .int .i64 nc, .int .i64 nl, .int .i64 nt, .int .i64 no, .int .i64 ne, .int .i64 nw, .int .u32 nv, .int .u32 nd0, .int .u32 nd1, .int .u32 nd2, .int .u32 nd3, .bool nh] W → W.cell? ⟨w.heap.size + 1, 12, none⟩ = some (.bool nh) := fun W h => blk_cell h.bB rfl
  have hS := HS0.out
  have hp := fun W => sPut_any (k, c, l, t, o, e, w_, v, d0, d1, d2, d3, h) W H32.out H64.out
  have hq := fun W => sPut_any (nk, nc, nl, nt, no, ne, nw, nv, nd0, nd1, nd2, nd3, nh) W G32.out G64.out
  change ∀ W, Calls _ _ _ _ (fun r w' => ∃ ao N cap, r = .returned (.slice ao N cap) ∧ N = (putB (k, c, l, t, o, e, w_, v, d0, d1, d2, d3, h)).length ∧ Lie w' ao cap (putB (k, c, l, t, o, e, w_, v, d0, d1, d2, d3, h)) ∧ Below W.heap.size W w') at hp
  change ∀ W, Calls _ _ _ _ (fun r w' => ∃ ao N cap, r = .returned (.slice ao N cap) ∧ N = (putB (nk, nc, nl, nt, no, ne, nw, nv, nd0, nd1, nd2, nd3, nh)).length ∧ Lie w' ao cap (putB (nk, nc, nl, nt, no, ne, nw, nv, nd0, nd1, nd2, nd3, nh)) ∧ Below W.heap.size W w') at hq
  simp only [mv] at hp hq
  have HP := Hid.in hp
  have HQ := Hid.in hq
  clear hp hq
  go_region_held3 (SM2 w #[.int .i64 k, .int .i64 c, .int .i64 l, .int .i64 t, .int .i64 o, .int .i64 e, .int .i64 w_, .int .u32 v, .int .u32 d0, .int .u32 d1, .int .u32 d2, .int .u32 d3, .bool h] #[.int .i64 nk, .int .i64 nc, .int .i64 nl, .int .i64 nt, .int .i64 no, .int .i64 ne, .int .i64 nw, .int .u32 nv, .int .u32 nd0, .int .u32 nd1, .int .u32 nd2, .int .u32 nd3, .bool nh]) (first | go_keep | (simp [*]; done))
    (first
      | (refine (HP.out _).mono ?_; rintro r w1 ⟨a1, M1, c1, rfl, hN1, hL1, hb1⟩; have hS1 : SM2 w #[.int .i64 k, .int .i64 c, .int .i64 l, .int .i64 t, .int .i64 o, .int .i64 e, .int .i64 w_, .int .u32 v, .int .u32 d0, .int .u32 d1, .int .u32 d2, .int .u32 d3, .bool h] #[.int .i64 nk, .int .i64 nc, .int .i64 nl, .int .i64 nt, .int .i64 no, .int .i64 ne, .int .i64 nw, .int .u32 nv, .int .u32 nd0, .int .u32 nd1, .int .u32 nd2, .int .u32 nd3, .bool nh] w1 := SM2.step (by assumption) hb1; have HS1 := Hid.in hS1; have HN1 := Hid.in hN1; have HL1 := Hid.in hL1; clear HP hN1 hL1 hb1)
      | (refine (HQ.out _).mono ?_; rintro r w2 ⟨a2, M2, c2, rfl, hN2, hL2, hb2⟩; have hS2 : SM2 w #[.int .i64 k, .int .i64 c, .int .i64 l, .int .i64 t, .int .i64 o, .int .i64 e, .int .i64 w_, .int .u32 v, .int .u32 d0, .int .u32 d1, .int .u32 d2, .int .u32 d3, .bool h] #[.int .i64 nk, .int .i64 nc, .int .i64 nl, .int .i64 nt, .int .i64 no, .int .i64 ne, .int .i64 nw, .int .u32 nv, .int .u32 nd0, .int .u32 nd1, .int .u32 nd2, .int .u32 nd3, .bool nh] w2 := HS1.out.step hb2; have HS2 := Hid.in hS2; have HN2 := Hid.in hN2; have HL2 := Hid.in hL2; have HL1b := Hid.in (HL1.out.step hb2); clear HQ hN2 hL2 hb2))
  clear sd sl hS hS1 hS2 HS1 HL1 HS0 p0 p1 p2 p3 p4 p5 p6 p7 p8 p9 p10 p11 p12 q0 q1 q2 q3 q4 q5 q6 q7 q8 q9 q10 q11 q12
  have HL1 := HL1b
  clear HL1b
  obtain rfl : M1 = 0 := by rw [HN1.out, putB_no _ HX.out]; rfl
  obtain rfl : M2 = 0 := by rw [HN2.out, putB_no _ HY.out]; rfl
  have x0 : w2.cell? ⟨w.heap.size, 0, none⟩ = some (.int .i64 k) := blk_cell HS2.out.bA rfl
  have x1 : w2.cell? ⟨w.heap.size, 1, none⟩ = some (.int .i64 c) := blk_cell HS2.out.bA rfl
  have x2 : w2.cell? ⟨w.heap.size, 2, none⟩ = some (.int .i64 l) := blk_cell HS2.out.bA rfl
  have x3 : w2.cell? ⟨w.heap.size, 3, none⟩ = some (.int .i64 t) := blk_cell HS2.out.bA rfl
  have x4 : w2.cell? ⟨w.heap.size, 4, none⟩ = some (.int .i64 o) := blk_cell HS2.out.bA rfl
  have x5 : w2.cell? ⟨w.heap.size, 5, none⟩ = some (.int .i64 e) := blk_cell HS2.out.bA rfl
  have x6 : w2.cell? ⟨w.heap.size, 6, none⟩ = some (.int .i64 w_) := blk_cell HS2.out.bA rfl
  have x7 : w2.cell? ⟨w.heap.size, 7, none⟩ = some (.int .u32 v) := blk_cell HS2.out.bA rfl
  have x8 : w2.cell? ⟨w.heap.size, 8, none⟩ = some (.int .u32 d0) := blk_cell HS2.out.bA rfl
  have x9 : w2.cell? ⟨w.heap.size, 9, none⟩ = some (.int .u32 d1) := blk_cell HS2.out.bA rfl
  have x10 : w2.cell? ⟨w.heap.size, 10, none⟩ = some (.int .u32 d2) := blk_cell HS2.out.bA rfl
  have x11 : w2.cell? ⟨w.heap.size, 11, none⟩ = some (.int .u32 d3) := blk_cell HS2.out.bA rfl
  have x12 : w2.cell? ⟨w.heap.size, 12, none⟩ = some (.bool h) := blk_cell HS2.out.bA rfl
  have hr := sRight_any (k, c, l, t, o, e, w_, v, d0, d1, d2, d3, h) w2 H32.out H64.out
  rw [HX.out] at hr
  simp only [mv] at hr
  go_wp2_with fail
  refine hr.mono ?_
  rintro r w3 ⟨rfl, hb⟩
  have HS3 := Hid.in (HS2.out.step hb)
  have HLa := Hid.in (HL1.out.step hb)
  have HLb := Hid.in (HL2.out.step hb)
  clear hr hb HL1 HL2 x0 x1 x2 x3 x4 x5 x6 x7 x8 x9 x10 x11 x12
  have HL1 := HLa
  have HL2 := HLb
  clear HLa HLb
  have x0 : w3.cell? ⟨w.heap.size, 0, none⟩ = some (.int .i64 k) := blk_cell HS3.out.bA rfl
  have x1 : w3.cell? ⟨w.heap.size, 1, none⟩ = some (.int .i64 c) := blk_cell HS3.out.bA rfl
  have x2 : w3.cell? ⟨w.heap.size, 2, none⟩ = some (.int .i64 l) := blk_cell HS3.out.bA rfl
  have x3 : w3.cell? ⟨w.heap.size, 3, none⟩ = some (.int .i64 t) := blk_cell HS3.out.bA rfl
  have x4 : w3.cell? ⟨w.heap.size, 4, none⟩ = some (.int .i64 o) := blk_cell HS3.out.bA rfl
  have x5 : w3.cell? ⟨w.heap.size, 5, none⟩ = some (.int .i64 e) := blk_cell HS3.out.bA rfl
  have x6 : w3.cell? ⟨w.heap.size, 6, none⟩ = some (.int .i64 w_) := blk_cell HS3.out.bA rfl
  have x7 : w3.cell? ⟨w.heap.size, 7, none⟩ = some (.int .u32 v) := blk_cell HS3.out.bA rfl
  have x8 : w3.cell? ⟨w.heap.size, 8, none⟩ = some (.int .u32 d0) := blk_cell HS3.out.bA rfl
  have x9 : w3.cell? ⟨w.heap.size, 9, none⟩ = some (.int .u32 d1) := blk_cell HS3.out.bA rfl
  have x10 : w3.cell? ⟨w.heap.size, 10, none⟩ = some (.int .u32 d2) := blk_cell HS3.out.bA rfl
  have x11 : w3.cell? ⟨w.heap.size, 11, none⟩ = some (.int .u32 d3) := blk_cell HS3.out.bA rfl
  have x12 : w3.cell? ⟨w.heap.size, 12, none⟩ = some (.bool h) := blk_cell HS3.out.bA rfl
  have hr := sRight_any (k, c, l, t, o, e, w_, v, d0, d1, d2, d3, h) w3 H32.out H64.out
  rw [HX.out] at hr
  simp only [mv] at hr
  go_wp2_with fail
  refine hr.mono ?_
  rintro r w5 ⟨rfl, hb⟩
  have HS5 := Hid.in (HS3.out.step hb)
  have HLa := Hid.in (HL1.out.step hb)
  have HLb := Hid.in (HL2.out.step hb)
  clear hr hb HL1 HL2 x0 x1 x2 x3 x4 x5 x6 x7 x8 x9 x10 x11 x12
  have HL1 := HLa
  have HL2 := HLb
  clear HLa HLb
  have x0 : w5.cell? ⟨w.heap.size + 1, 0, none⟩ = some (.int .i64 nk) := blk_cell HS5.out.bB rfl
  have x1 : w5.cell? ⟨w.heap.size + 1, 1, none⟩ = some (.int .i64 nc) := blk_cell HS5.out.bB rfl
  have x2 : w5.cell? ⟨w.heap.size + 1, 2, none⟩ = some (.int .i64 nl) := blk_cell HS5.out.bB rfl
  have x3 : w5.cell? ⟨w.heap.size + 1, 3, none⟩ = some (.int .i64 nt) := blk_cell HS5.out.bB rfl
  have x4 : w5.cell? ⟨w.heap.size + 1, 4, none⟩ = some (.int .i64 no) := blk_cell HS5.out.bB rfl
  have x5 : w5.cell? ⟨w.heap.size + 1, 5, none⟩ = some (.int .i64 ne) := blk_cell HS5.out.bB rfl
  have x6 : w5.cell? ⟨w.heap.size + 1, 6, none⟩ = some (.int .i64 nw) := blk_cell HS5.out.bB rfl
  have x7 : w5.cell? ⟨w.heap.size + 1, 7, none⟩ = some (.int .u32 nv) := blk_cell HS5.out.bB rfl
  have x8 : w5.cell? ⟨w.heap.size + 1, 8, none⟩ = some (.int .u32 nd0) := blk_cell HS5.out.bB rfl
  have x9 : w5.cell? ⟨w.heap.size + 1, 9, none⟩ = some (.int .u32 nd1) := blk_cell HS5.out.bB rfl
  have x10 : w5.cell? ⟨w.heap.size + 1, 10, none⟩ = some (.int .u32 nd2) := blk_cell HS5.out.bB rfl
  have x11 : w5.cell? ⟨w.heap.size + 1, 11, none⟩ = some (.int .u32 nd3) := blk_cell HS5.out.bB rfl
  have x12 : w5.cell? ⟨w.heap.size + 1, 12, none⟩ = some (.bool nh) := blk_cell HS5.out.bB rfl
  have hr := sRight_any (nk, nc, nl, nt, no, ne, nw, nv, nd0, nd1, nd2, nd3, nh) w5 G32.out G64.out
  rw [HY.out] at hr
  simp only [mv] at hr
  go_wp2_with fail
  refine hr.mono ?_
  rintro r w6 ⟨rfl, hb⟩
  have HS6 := Hid.in (HS5.out.step hb)
  have HLa := Hid.in (HL1.out.step hb)
  have HLb := Hid.in (HL2.out.step hb)
  clear hr hb HL1 HL2 x0 x1 x2 x3 x4 x5 x6 x7 x8 x9 x10 x11 x12
  have HL1 := HLa
  have HL2 := HLb
  clear HLa HLb
  go_wp2_with fail
  refine (msgRuns_any _ sa (HE.out.below HS6.out.be)).mono ?_
  rintro r w7 ⟨rfl, hb⟩
  have HS7 := Hid.in (HS6.out.step hb)
  clear hb
  go_wp2
  go_ret
  exact ⟨rfl, HS7.out.be⟩

set_option maxHeartbeats 6400000 in
set_option maxRecDepth 20000 in
theorem msgApart_01 (w : World) (sa : Nat → Addr) (hE : Env10 w sa) (k c l t o e w_ v d0 d1 d2 d3 : Int) (h : Bool) (nk nc nl nt no ne nw nv nd0 nd1 nd2 nd3 : Int) (nh : Bool) (h32 : M32 (k, c, l, t, o, e, w_, v, d0, d1, d2, d3, h)) (h64 : M64 (k, c, l, t, o, e, w_, v, d0, d1, d2, d3, h)) (g32 : M32 (nk, nc, nl, nt, no, ne, nw, nv, nd0, nd1, nd2, nd3, nh)) (g64 : M64 (nk, nc, nl, nt, no, ne, nw, nv, nd0, nd1, nd2, nd3, nh)) (hx : rtB (k, c, l, t, o, e, w_, v, d0, d1, d2, d3, h) = false) (hy : rtB (nk, nc, nl, nt, no, ne, nw, nv, nd0, nd1, nd2, nd3, nh) = true) :
    Calls Tryd.prog 8 #[.agg #[.int .i64 k, .int .i64 c, .int .i64 l, .int .i64 t, .int .i64 o, .int .i64 e, .int .i64 w_, .int .u32 v, .int .u32 d0, .int .u32 d1, .int .u32 d2, .int .u32 d3, .bool h], .agg #[.int .i64 nk, .int .i64 nc, .int .i64 nl, .int .i64 nt, .int .i64 no, .int .i64 ne, .int .i64 nw, .int .u32 nv, .int .u32 nd0, .int .u32 nd1, .int .u32 nd2, .int .u32 nd3, .bool nh]] w fun r w' => r = .returned (.bool true) ∧ Below w.heap.size w w' := by
  have HX := Hid.in hx
  have HY := Hid.in hy
  clear hx hy
  have HE := Hid.in hE
  have H32 := Hid.in h32
  have H64 := Hid.in h64
  have G32 := Hid.in g32
  have G64 := Hid.in g64
  clear hE h32 h64 g32 g64
  have HS0 : Hid (SM2 w #[.int .i64 k, .int .i64 c, .int .i64 l, .int .i64 t, .int .i64 o, .int .i64 e, .int .i64 w_, .int .u32 v, .int .u32 d0, .int .u32 d1, .int .u32 d2, .int .u32 d3, .bool h] #[.int .i64 nk, .int .i64 nc, .int .i64 nl, .int .i64 nt, .int .i64 no, .int .i64 ne, .int .i64 nw, .int .u32 nv, .int .u32 nd0, .int .u32 nd1, .int .u32 nd2, .int .u32 nd3, .bool nh] ((w.alloc (.cells #[.int .i64 k, .int .i64 c, .int .i64 l, .int .i64 t, .int .i64 o, .int .i64 e, .int .i64 w_, .int .u32 v, .int .u32 d0, .int .u32 d1, .int .u32 d2, .int .u32 d3, .bool h] 28)).alloc (.cells #[.int .i64 nk, .int .i64 nc, .int .i64 nl, .int .i64 nt, .int .i64 no, .int .i64 ne, .int .i64 nw, .int .u32 nv, .int .u32 nd0, .int .u32 nd1, .int .u32 nd2, .int .u32 nd3, .bool nh] 28))) := Hid.in (SM2.start _ _ _)
  go_enter Tryd.func8, Tryd.ntmps8
  go_upto_region 1 with fail
  generalize hX : ((w.alloc (.cells #[.int .i64 k, .int .i64 c, .int .i64 l, .int .i64 t, .int .i64 o, .int .i64 e, .int .i64 w_, .int .u32 v, .int .u32 d0, .int .u32 d1, .int .u32 d2, .int .u32 d3, .bool h] 28)).alloc (.cells #[.int .i64 nk, .int .i64 nc, .int .i64 nl, .int .i64 nt, .int .i64 no, .int .i64 ne, .int .i64 nw, .int .u32 nv, .int .u32 nd0, .int .u32 nd1, .int .u32 nd2, .int .u32 nd3, .bool nh] 28)) = W0 at *
  clear hX
  have sd : ∀ W, SM2 w #[.int .i64 k, .int .i64 c, .int .i64 l, .int .i64 t, .int .i64 o, .int .i64 e, .int .i64 w_, .int .u32 v, .int .u32 d0, .int .u32 d1, .int .u32 d2, .int .u32 d3, .bool h] #[.int .i64 nk, .int .i64 nc, .int .i64 nl, .int .i64 nt, .int .i64 no, .int .i64 ne, .int .i64 nw, .int .u32 nv, .int .u32 nd0, .int .u32 nd1, .int .u32 nd2, .int .u32 nd3, .bool nh] W → SM2 w #[.int .i64 k, .int .i64 c, .int .i64 l, .int .i64 t, .int .i64 o, .int .i64 e, .int .i64 w_, .int .u32 v, .int .u32 d0, .int .u32 d1, .int .u32 d2, .int .u32 d3, .bool h] #[.int .i64 nk, .int .i64 nc, .int .i64 nl, .int .i64 nt, .int .i64 no, .int .i64 ne, .int .i64 nw, .int .u32 nv, .int .u32 nd0, .int .u32 nd1, .int .u32 nd2, .int .u32 nd3, .bool nh] W.drew := fun W h => h.step (Below.refl _ _).drew
  have sl : ∀ (W : World) (ob : Obj), SM2 w #[.int .i64 k, .int .i64 c, .int .i64 l, .int .i64 t, .int .i64 o, .int .i64 e, .int .i64 w_, .int .u32 v, .int .u32 d0, .int .u32 d1, .int .u32 d2, .int .u32 d3, .bool h] #[.int .i64 nk, .int .i64 nc, .int .i64 nl, .int .i64 nt, .int .i64 no, .int .i64 ne, .int .i64 nw, .int .u32 nv, .int .u32 nd0, .int .u32 nd1, .int .u32 nd2, .int .u32 nd3, .bool nh] W → SM2 w #[.int .i64 k, .int .i64 c, .int .i64 l, .int .i64 t, .int .i64 o, .int .i64 e, .int .i64 w_, .int .u32 v, .int .u32 d0, .int .u32 d1, .int .u32 d2, .int .u32 d3, .bool h] #[.int .i64 nk, .int .i64 nc, .int .i64 nl, .int .i64 nt, .int .i64 no, .int .i64 ne, .int .i64 nw, .int .u32 nv, .int .u32 nd0, .int .u32 nd1, .int .u32 nd2, .int .u32 nd3, .bool nh] (W.alloc ob) := fun W ob h => h.step (below_alloc _ _)
  have p0 : ∀ W, SM2 w #[.int .i64 k, .int .i64 c, .int .i64 l, .int .i64 t, .int .i64 o, .int .i64 e, .int .i64 w_, .int .u32 v, .int .u32 d0, .int .u32 d1, .int .u32 d2, .int .u32 d3, .bool h] #[.int .i64 nk, .int .i64 nc, .int .i64 nl, .int .i64 nt, .int .i64 no, .int .i64 ne, .int .i64 nw, .int .u32 nv, .int .u32 nd0, .int .u32 nd1, .int .u32 nd2, .int .u32 nd3, .bool nh] W → W.cell? ⟨w.heap.size, 0, none⟩ = some (.int .i64 k) := fun W h => blk_cell h.bA rfl
  have p1 : ∀ W, SM2 w #[.int .i64 k, .int .i64 c, .int .i64 l, .int .i64 t, .int .i64 o, .int .i64 e, .int .i64 w_, .int .u32 v, .int .u32 d0, .int .u32 d1, .int .u32 d2, .int .u32 d3, .bool h] #[.int .i64 nk, .int .i64 nc, .int .i64 nl, .int .i64 nt, .int .i64 no, .int .i64 ne, .int .i64 nw, .int .u32 nv, .int .u32 nd0, .int .u32 nd1, .int .u32 nd2, .int .u32 nd3, .bool nh] W → W.cell? ⟨w.heap.size, 1, none⟩ = some (.int .i64 c) := fun W h => blk_cell h.bA rfl
  have p2 : ∀ W, SM2 w #[.int .i64 k, .int .i64 c, .int .i64 l, .int .i64 t, .int .i64 o, .int .i64 e, .int .i64 w_, .int .u32 v, .int .u32 d0, .int .u32 d1, .int .u32 d2, .int .u32 d3, .bool h] #[.int .i64 nk, .int .i64 nc, .int .i64 nl, .int .i64 nt, .int .i64 no, .int .i64 ne, .int .i64 nw, .int .u32 nv, .int .u32 nd0, .int .u32 nd1, .int .u32 nd2, .int .u32 nd3, .bool nh] W → W.cell? ⟨w.heap.size, 2, none⟩ = some (.int .i64 l) := fun W h => blk_cell h.bA rfl
  have p3 : ∀ W, SM2 w #[.int .i64 k, .int .i64 c, .int .i64 l, .int .i64 t, .int .i64 o, .int .i64 e, .int .i64 w_, .int .u32 v, .int .u32 d0, .int .u32 d1, .int .u32 d2, .int .u32 d3, .bool h] #[.int .i64 nk, .int .i64 nc, .int .i64 nl, .int .i64 nt, .int .i64 no, .int .i64 ne, .int .i64 nw, .int .u32 nv, .int .u32 nd0, .int .u32 nd1, .int .u32 nd2, .int .u32 nd3, .bool nh] W → W.cell? ⟨w.heap.size, 3, none⟩ = some (.int .i64 t) := fun W h => blk_cell h.bA rfl
  have p4 : ∀ W, SM2 w #[.int .i64 k, .int .i64 c, .int .i64 l, .int .i64 t, .int .i64 o, .int .i64 e, .int .i64 w_, .int .u32 v, .int .u32 d0, .int .u32 d1, .int .u32 d2, .int .u32 d3, .bool h] #[.int .i64 nk, .int .i64 nc, .int .i64 nl, .int .i64 nt, .int .i64 no, .int .i64 ne, .int .i64 nw, .int .u32 nv, .int .u32 nd0, .int .u32 nd1, .int .u32 nd2, .int .u32 nd3, .bool nh] W → W.cell? ⟨w.heap.size, 4, none⟩ = some (.int .i64 o) := fun W h => blk_cell h.bA rfl
  have p5 : ∀ W, SM2 w #[.int .i64 k, .int .i64 c, .int .i64 l, .int .i64 t, .int .i64 o, .int .i64 e, .int .i64 w_, .int .u32 v, .int .u32 d0, .int .u32 d1, .int .u32 d2, .int .u32 d3, .bool h] #[.int .i64 nk, .int .i64 nc, .int .i64 nl, .int .i64 nt, .int .i64 no, .int .i64 ne, .int .i64 nw, .int .u32 nv, .int .u32 nd0, .int .u32 nd1, .int .u32 nd2, .int .u32 nd3, .bool nh] W → W.cell? ⟨w.heap.size, 5, none⟩ = some (.int .i64 e) := fun W h => blk_cell h.bA rfl
  have p6 : ∀ W, SM2 w #[.int .i64 k, .int .i64 c, .int .i64 l, .int .i64 t, .int .i64 o, .int .i64 e, .int .i64 w_, .int .u32 v, .int .u32 d0, .int .u32 d1, .int .u32 d2, .int .u32 d3, .bool h] #[.int .i64 nk, .int .i64 nc, .int .i64 nl, .int .i64 nt, .int .i64 no, .int .i64 ne, .int .i64 nw, .int .u32 nv, .int .u32 nd0, .int .u32 nd1, .int .u32 nd2, .int .u32 nd3, .bool nh] W → W.cell? ⟨w.heap.size, 6, none⟩ = some (.int .i64 w_) := fun W h => blk_cell h.bA rfl
  have p7 : ∀ W, SM2 w #[.int .i64 k, .int .i64 c, .int .i64 l, .int .i64 t, .int .i64 o, .int .i64 e, .int .i64 w_, .int .u32 v, .int .u32 d0, .int .u32 d1, .int .u32 d2, .int .u32 d3, .bool h] #[.int .i64 nk, .int .i64 nc, .int .i64 nl, .int .i64 nt, .int .i64 no, .int .i64 ne, .int .i64 nw, .int .u32 nv, .int .u32 nd0, .int .u32 nd1, .int .u32 nd2, .int .u32 nd3, .bool nh] W → W.cell? ⟨w.heap.size, 7, none⟩ = some (.int .u32 v) := fun W h => blk_cell h.bA rfl
  have p8 : ∀ W, SM2 w #[.int .i64 k, .int .i64 c, .int .i64 l, .int .i64 t, .int .i64 o, .int .i64 e, .int .i64 w_, .int .u32 v, .int .u32 d0, .int .u32 d1, .int .u32 d2, .int .u32 d3, .bool h] #[.int .i64 nk, .int .i64 nc, .int .i64 nl, .int .i64 nt, .int .i64 no, .int .i64 ne, .int .i64 nw, .int .u32 nv, .int .u32 nd0, .int .u32 nd1, .int .u32 nd2, .int .u32 nd3, .bool nh] W → W.cell? ⟨w.heap.size, 8, none⟩ = some (.int .u32 d0) := fun W h => blk_cell h.bA rfl
  have p9 : ∀ W, SM2 w #[.int .i64 k, .int .i64 c, .int .i64 l, .int .i64 t, .int .i64 o, .int .i64 e, .int .i64 w_, .int .u32 v, .int .u32 d0, .int .u32 d1, .int .u32 d2, .int .u32 d3, .bool h] #[.int .i64 nk, .int .i64 nc, .int .i64 nl, .int .i64 nt, .int .i64 no, .int .i64 ne, .int .i64 nw, .int .u32 nv, .int .u32 nd0, .int .u32 nd1, .int .u32 nd2, .int .u32 nd3, .bool nh] W → W.cell? ⟨w.heap.size, 9, none⟩ = some (.int .u32 d1) := fun W h => blk_cell h.bA rfl
  have p10 : ∀ W, SM2 w #[.int .i64 k, .int .i64 c, .int .i64 l, .int .i64 t, .int .i64 o, .int .i64 e, .int .i64 w_, .int .u32 v, .int .u32 d0, .int .u32 d1, .int .u32 d2, .int .u32 d3, .bool h] #[.int .i64 nk, .int .i64 nc, .int .i64 nl, .int .i64 nt, .int .i64 no, .int .i64 ne, .int .i64 nw, .int .u32 nv, .int .u32 nd0, .int .u32 nd1, .int .u32 nd2, .int .u32 nd3, .bool nh] W → W.cell? ⟨w.heap.size, 10, none⟩ = some (.int .u32 d2) := fun W h => blk_cell h.bA rfl
  have p11 : ∀ W, SM2 w #[.int .i64 k, .int .i64 c, .int .i64 l, .int .i64 t, .int .i64 o, .int .i64 e, .int .i64 w_, .int .u32 v, .int .u32 d0, .int .u32 d1, .int .u32 d2, .int .u32 d3, .bool h] #[.int .i64 nk, .int .i64 nc, .int .i64 nl, .int .i64 nt, .int .i64 no, .int .i64 ne, .int .i64 nw, .int .u32 nv, .int .u32 nd0, .int .u32 nd1, .int .u32 nd2, .int .u32 nd3, .bool nh] W → W.cell? ⟨w.heap.size, 11, none⟩ = some (.int .u32 d3) := fun W h => blk_cell h.bA rfl
  have p12 : ∀ W, SM2 w #[.int .i64 k, .int .i64 c, .int .i64 l, .int .i64 t, .int .i64 o, .int .i64 e, .int .i64 w_, .int .u32 v, .int .u32 d0, .int .u32 d1, .int .u32 d2, .int .u32 d3, .bool h] #[.int .i64 nk, .int .i64 nc, .int .i64 nl, .int .i64 nt, .int .i64 no, .int .i64 ne, .int .i64 nw, .int .u32 nv, .int .u32 nd0, .int .u32 nd1, .int .u32 nd2, .int .u32 nd3, .bool nh] W → W.cell? ⟨w.heap.size, 12, none⟩ = some (.bool h) := fun W h => blk_cell h.bA rfl
  have q0 : ∀ W, SM2 w #[.int .i64 k, .int .i64 c, .int .i64 l, .int .i64 t, .int .i64 o, .int .i64 e, .int .i64 w_, .int .u32 v, .int .u32 d0, .int .u32 d1, .int .u32 d2, .int .u32 d3, .bool h] #[.int .i64 nk, .int .i64 nc, .int .i64 nl, .int .i64 nt, .int .i64 no, .int .i64 ne, .int .i64 nw, .int .u32 nv, .int .u32 nd0, .int .u32 nd1, .int .u32 nd2, .int .u32 nd3, .bool nh] W → W.cell? ⟨w.heap.size + 1, 0, none⟩ = some (.int .i64 nk) := fun W h => blk_cell h.bB rfl
  have q1 : ∀ W, SM2 w #[.int .i64 k, .int .i64 c, .int .i64 l, .int .i64 t, .int .i64 o, .int .i64 e, .int .i64 w_, .int .u32 v, .int .u32 d0, .int .u32 d1, .int .u32 d2, .int .u32 d3, .bool h] #[.int .i64 nk, .int .i64 nc, .int .i64 nl, .int .i64 nt, .int .i64 no, .int .i64 ne, .int .i64 nw, .int .u32 nv, .int .u32 nd0, .int .u32 nd1, .int .u32 nd2, .int .u32 nd3, .bool nh] W → W.cell? ⟨w.heap.size + 1, 1, none⟩ = some (.int .i64 nc) := fun W h => blk_cell h.bB rfl
  have q2 : ∀ W, SM2 w #[.int .i64 k, .int .i64 c, .int .i64 l, .int .i64 t, .int .i64 o, .int .i64 e, .int .i64 w_, .int .u32 v, .int .u32 d0, .int .u32 d1, .int .u32 d2, .int .u32 d3, .bool h] #[.int .i64 nk, .int .i64 nc, .int .i64 nl, .int .i64 nt, .int .i64 no, .int .i64 ne, .int .i64 nw, .int .u32 nv, .int .u32 nd0, .int .u32 nd1, .int .u32 nd2, .int .u32 nd3, .bool nh] W → W.cell? ⟨w.heap.size + 1, 2, none⟩ = some (.int .i64 nl) := fun W h => blk_cell h.bB rfl
  have q3 : ∀ W, SM2 w #[.int .i64 k, .int .i64 c, .int .i64 l, .int .i64 t, .int .i64 o, .int .i64 e, .int .i64 w_, .int .u32 v, .int .u32 d0, .int .u32 d1, .int .u32 d2, .int .u32 d3, .bool h] #[.int .i64 nk, .int .i64 nc, .int .i64 nl, .int .i64 nt, .int .i64 no, .int .i64 ne, .int .i64 nw, .int .u32 nv, .int .u32 nd0, .int .u32 nd1, .int .u32 nd2, .int .u32 nd3, .bool nh] W → W.cell? ⟨w.heap.size + 1, 3, none⟩ = some (.int .i64 nt) := fun W h => blk_cell h.bB rfl
  have q4 : ∀ W, SM2 w #[.int .i64 k, .int .i64 c, .int .i64 l, .int .i64 t, .int .i64 o, .int .i64 e, .int .i64 w_, .int .u32 v, .int .u32 d0, .int .u32 d1, .int .u32 d2, .int .u32 d3, .bool h] #[.int .i64 nk, .int .i64 nc, .int .i64 nl, .int .i64 nt, .int .i64 no, .int .i64 ne, .int .i64 nw, .int .u32 nv, .int .u32 nd0, .int .u32 nd1, .int .u32 nd2, .int .u32 nd3, .bool nh] W → W.cell? ⟨w.heap.size + 1, 4, none⟩ = some (.int .i64 no) := fun W h => blk_cell h.bB rfl
  have q5 : ∀ W, SM2 w #[.int .i64 k, .int .i64 c, .int .i64 l, .int .i64 t, .int .i64 o, .int .i64 e, .int .i64 w_, .int .u32 v, .int .u32 d0, .int .u32 d1, .int .u32 d2, .int .u32 d3, .bool h] #[.int .i64 nk, .int .i64 nc, .int .i64 nl, .int .i64 nt, .int .i64 no, .int .i64 ne, .int .i64 nw, .int .u32 nv, .int .u32 nd0, .int .u32 nd1, .int .u32 nd2, .int .u32 nd3, .bool nh] W → W.cell? ⟨w.heap.size + 1, 5, none⟩ = some (.int .i64 ne) := fun W h => blk_cell h.bB rfl
  have q6 : ∀ W, SM2 w #[.int .i64 k, .int .i64 c, .int .i64 l, .int .i64 t, .int .i64 o, .int .i64 e, .int .i64 w_, .int .u32 v, .int .u32 d0, .int .u32 d1, .int .u32 d2, .int .u32 d3, .bool h] #[.int .i64 nk, .int .i64 nc, .int .i64 nl, .int .i64 nt, .int .i64 no, .int .i64 ne, .int .i64 nw, .int .u32 nv, .int .u32 nd0, .int .u32 nd1, .int .u32 nd2, .int .u32 nd3, .bool nh] W → W.cell? ⟨w.heap.size + 1, 6, none⟩ = some (.int .i64 nw) := fun W h => blk_cell h.bB rfl
  have q7 : ∀ W, SM2 w #[.int .i64 k, .int .i64 c, .int .i64 l, .int .i64 t, .int .i64 o, .int .i64 e, .int .i64 w_, .int .u32 v, .int .u32 d0, .int .u32 d1, .int .u32 d2, .int .u32 d3, .bool h] #[.int .i64 nk, .int .i64 nc, .int .i64 nl, .int .i64 nt, .int .i64 no, .int .i64 ne, .int .i64 nw, .int .u32 nv, .int .u32 nd0, .int .u32 nd1, .int .u32 nd2, .int .u32 nd3, .bool nh] W → W.cell? ⟨w.heap.size + 1, 7, none⟩ = some (.int .u32 nv) := fun W h => blk_cell h.bB rfl
  have q8 : ∀ W, SM2 w #[.int .i64 k, .int .i64 c, .int .i64 l, .int .i64 t, .int .i64 o, .int .i64 e, .int .i64 w_, .int .u32 v, .int .u32 d0, .int .u32 d1, .int .u32 d2, .int .u32 d3, .bool h] #[.int .i64 nk, .int .i64 nc, .int .i64 nl, .int .i64 nt, .int .i64 no, .int .i64 ne, .int .i64 nw, .int .u32 nv, .int .u32 nd0, .int .u32 nd1, .int .u32 nd2, .int .u32 nd3, .bool nh] W → W.cell? ⟨w.heap.size + 1, 8, none⟩ = some (.int .u32 nd0) := fun W h => blk_cell h.bB rfl
  have q9 : ∀ W, SM2 w #[.int .i64 k, .int .i64 c, .int .i64 l, .int .i64 t, .int .i64 o, .int .i64 e, .int .i64 w_, .int .u32 v, .int .u32 d0, .int .u32 d1, .int .u32 d2, .int .u32 d3, .bool h] #[.int .i64 nk, .int .i64 nc, .int .i64 nl, .int .i64 nt, .int .i64 no, .int .i64 ne, .int .i64 nw, .int .u32 nv, .int .u32 nd0, .int .u32 nd1, .int .u32 nd2, .int .u32 nd3, .bool nh] W → W.cell? ⟨w.heap.size + 1, 9, none⟩ = some (.int .u32 nd1) := fun W h => blk_cell h.bB rfl
  have q10 : ∀ W, SM2 w #[.int .i64 k, .int .i64 c, .int .i64 l, .int .i64 t, .int .i64 o, .int .i64 e, .int .i64 w_, .int .u32 v, .int .u32 d0, .int .u32 d1, .int .u32 d2, .int .u32 d3, .bool h] #[.int .i64 nk, .int .i64 nc, .int .i64 nl, .int .i64 nt, .int .i64 no, .int .i64 ne, .int .i64 nw, .int .u32 nv, .int .u32 nd0, .int .u32 nd1, .int .u32 nd2, .int .u32 nd3, .bool nh] W → W.cell? ⟨w.heap.size + 1, 10, none⟩ = some (.int .u32 nd2) := fun W h => blk_cell h.bB rfl
  have q11 : ∀ W, SM2 w #[.int .i64 k, .int .i64 c, .int .i64 l, .int .i64 t, .int .i64 o, .int .i64 e, .int .i64 w_, .int .u32 v, .int .u32 d0, .int .u32 d1, .int .u32 d2, .int .u32 d3, .bool h] #[.int .i64 nk, .int .i64 nc, .int .i64 nl, .int .i64 nt, .int .i64 no, .int .i64 ne, .int .i64 nw, .int .u32 nv, .int .u32 nd0, .int .u32 nd1, .int .u32 nd2, .int .u32 nd3, .bool nh] W → W.cell? ⟨w.heap.size + 1, 11, none⟩ = some (.int .u32 nd3) := fun W h => blk_cell h.bB rfl
  have q12 : ∀ W, SM2 w #[.int .i64 k, .int .i64 c, .int .i64 l, .int .i64 t, .int .i64 o, .int .i64 e, .int .i64 w_, .int .u32 v, .int .u32 d0, .int .u32 d1, .int .u32 d2, .int .u32 d3, .bool h] #[.int .i64 nk, .int .i64 nc, .int .i64 nl, .int .i64 nt, .int .i64 no, .int .i64 ne, .int .i64 nw, .int .u32 nv, .int .u32 nd0, .int .u32 nd1, .int .u32 nd2, .int .u32 nd3, .bool nh] W → W.cell? ⟨w.heap.size + 1, 12, none⟩ = some (.bool nh) := fun W h => blk_cell h.bB rfl
  have hS := HS0.out
  have hp := fun W => sPut_any (k, c, l, t, o, e, w_, v, d0, d1, d2, d3, h) W H32.out H64.out
  have hq := fun W => sPut_any (nk, nc, nl, nt, no, ne, nw, nv, nd0, nd1, nd2, nd3, nh) W G32.out G64.out
  change ∀ W, Calls _ _ _ _ (fun r w' => ∃ ao N cap, r = .returned (.slice ao N cap) ∧ N = (putB (k, c, l, t, o, e, w_, v, d0, d1, d2, d3, h)).length ∧ Lie w' ao cap (putB (k, c, l, t, o, e, w_, v, d0, d1, d2, d3, h)) ∧ Below W.heap.size W w') at hp
  change ∀ W, Calls _ _ _ _ (fun r w' => ∃ ao N cap, r = .returned (.slice ao N cap) ∧ N = (putB (nk, nc, nl, nt, no, ne, nw, nv, nd0, nd1, nd2, nd3, nh)).length ∧ Lie w' ao cap (putB (nk, nc, nl, nt, no, ne, nw, nv, nd0, nd1, nd2, nd3, nh)) ∧ Below W.heap.size W w') at hq
  simp only [mv] at hp hq
  have HP := Hid.in hp
  have HQ := Hid.in hq
  clear hp hq
  go_region_held3 (SM2 w #[.int .i64 k, .int .i64 c, .int .i64 l, .int .i64 t, .int .i64 o, .int .i64 e, .int .i64 w_, .int .u32 v, .int .u32 d0, .int .u32 d1, .int .u32 d2, .int .u32 d3, .bool h] #[.int .i64 nk, .int .i64 nc, .int .i64 nl, .int .i64 nt, .int .i64 no, .int .i64 ne, .int .i64 nw, .int .u32 nv, .int .u32 nd0, .int .u32 nd1, .int .u32 nd2, .int .u32 nd3, .bool nh]) (first | go_keep | (simp [*]; done))
    (first
      | (refine (HP.out _).mono ?_; rintro r w1 ⟨a1, M1, c1, rfl, hN1, hL1, hb1⟩; have hS1 : SM2 w #[.int .i64 k, .int .i64 c, .int .i64 l, .int .i64 t, .int .i64 o, .int .i64 e, .int .i64 w_, .int .u32 v, .int .u32 d0, .int .u32 d1, .int .u32 d2, .int .u32 d3, .bool h] #[.int .i64 nk, .int .i64 nc, .int .i64 nl, .int .i64 nt, .int .i64 no, .int .i64 ne, .int .i64 nw, .int .u32 nv, .int .u32 nd0, .int .u32 nd1, .int .u32 nd2, .int .u32 nd3, .bool nh] w1 := SM2.step (by assumption) hb1; have HS1 := Hid.in hS1; have HN1 := Hid.in hN1; have HL1 := Hid.in hL1; clear HP hN1 hL1 hb1)
      | (refine (HQ.out _).mono ?_; rintro r w2 ⟨a2, M2, c2, rfl, hN2, hL2, hb2⟩; have hS2 : SM2 w #[.int .i64 k, .int .i64 c, .int .i64 l, .int .i64 t, .int .i64 o, .int .i64 e, .int .i64 w_, .int .u32 v, .int .u32 d0, .int .u32 d1, .int .u32 d2, .int .u32 d3, .bool h] #[.int .i64 nk, .int .i64 nc, .int .i64 nl, .int .i64 nt, .int .i64 no, .int .i64 ne, .int .i64 nw, .int .u32 nv, .int .u32 nd0, .int .u32 nd1, .int .u32 nd2, .int .u32 nd3, .bool nh] w2 := HS1.out.step hb2; have HS2 := Hid.in hS2; have HN2 := Hid.in hN2; have HL2 := Hid.in hL2; have HL1b := Hid.in (HL1.out.step hb2); clear HQ hN2 hL2 hb2))
  clear sd sl hS hS1 hS2 HS1 HL1 HS0 p0 p1 p2 p3 p4 p5 p6 p7 p8 p9 p10 p11 p12 q0 q1 q2 q3 q4 q5 q6 q7 q8 q9 q10 q11 q12
  have HL1 := HL1b
  clear HL1b
  obtain rfl : M1 = 0 := by rw [HN1.out, putB_no _ HX.out]; rfl
  have m2 : 1 ≤ M2 := by rw [HN2.out, putB_yes _ HY.out]; exact (encM_len _ G32.out G64.out).2
  have m2' : ¬ ((M2 : Int) = 0) := by omega
  have m2b : ((M2 : Int) == 0) = false := by simpa using m2'
  have x0 : w2.cell? ⟨w.heap.size, 0, none⟩ = some (.int .i64 k) := blk_cell HS2.out.bA rfl
  have x1 : w2.cell? ⟨w.heap.size, 1, none⟩ = some (.int .i64 c) := blk_cell HS2.out.bA rfl
  have x2 : w2.cell? ⟨w.heap.size, 2, none⟩ = some (.int .i64 l) := blk_cell HS2.out.bA rfl
  have x3 : w2.cell? ⟨w.heap.size, 3, none⟩ = some (.int .i64 t) := blk_cell HS2.out.bA rfl
  have x4 : w2.cell? ⟨w.heap.size, 4, none⟩ = some (.int .i64 o) := blk_cell HS2.out.bA rfl
  have x5 : w2.cell? ⟨w.heap.size, 5, none⟩ = some (.int .i64 e) := blk_cell HS2.out.bA rfl
  have x6 : w2.cell? ⟨w.heap.size, 6, none⟩ = some (.int .i64 w_) := blk_cell HS2.out.bA rfl
  have x7 : w2.cell? ⟨w.heap.size, 7, none⟩ = some (.int .u32 v) := blk_cell HS2.out.bA rfl
  have x8 : w2.cell? ⟨w.heap.size, 8, none⟩ = some (.int .u32 d0) := blk_cell HS2.out.bA rfl
  have x9 : w2.cell? ⟨w.heap.size, 9, none⟩ = some (.int .u32 d1) := blk_cell HS2.out.bA rfl
  have x10 : w2.cell? ⟨w.heap.size, 10, none⟩ = some (.int .u32 d2) := blk_cell HS2.out.bA rfl
  have x11 : w2.cell? ⟨w.heap.size, 11, none⟩ = some (.int .u32 d3) := blk_cell HS2.out.bA rfl
  have x12 : w2.cell? ⟨w.heap.size, 12, none⟩ = some (.bool h) := blk_cell HS2.out.bA rfl
  have hr := sRight_any (k, c, l, t, o, e, w_, v, d0, d1, d2, d3, h) w2 H32.out H64.out
  rw [HX.out] at hr
  simp only [mv] at hr
  go_wp2_with fail
  refine hr.mono ?_
  rintro r w3 ⟨rfl, hb⟩
  have HS3 := Hid.in (HS2.out.step hb)
  have HLa := Hid.in (HL1.out.step hb)
  have HLb := Hid.in (HL2.out.step hb)
  clear hr hb HL1 HL2 x0 x1 x2 x3 x4 x5 x6 x7 x8 x9 x10 x11 x12
  have HL1 := HLa
  have HL2 := HLb
  clear HLa HLb
  have x0 : w3.cell? ⟨w.heap.size, 0, none⟩ = some (.int .i64 k) := blk_cell HS3.out.bA rfl
  have x1 : w3.cell? ⟨w.heap.size, 1, none⟩ = some (.int .i64 c) := blk_cell HS3.out.bA rfl
  have x2 : w3.cell? ⟨w.heap.size, 2, none⟩ = some (.int .i64 l) := blk_cell HS3.out.bA rfl
  have x3 : w3.cell? ⟨w.heap.size, 3, none⟩ = some (.int .i64 t) := blk_cell HS3.out.bA rfl
  have x4 : w3.cell? ⟨w.heap.size, 4, none⟩ = some (.int .i64 o) := blk_cell HS3.out.bA rfl
  have x5 : w3.cell? ⟨w.heap.size, 5, none⟩ = some (.int .i64 e) := blk_cell HS3.out.bA rfl
  have x6 : w3.cell? ⟨w.heap.size, 6, none⟩ = some (.int .i64 w_) := blk_cell HS3.out.bA rfl
  have x7 : w3.cell? ⟨w.heap.size, 7, none⟩ = some (.int .u32 v) := blk_cell HS3.out.bA rfl
  have x8 : w3.cell? ⟨w.heap.size, 8, none⟩ = some (.int .u32 d0) := blk_cell HS3.out.bA rfl
  have x9 : w3.cell? ⟨w.heap.size, 9, none⟩ = some (.int .u32 d1) := blk_cell HS3.out.bA rfl
  have x10 : w3.cell? ⟨w.heap.size, 10, none⟩ = some (.int .u32 d2) := blk_cell HS3.out.bA rfl
  have x11 : w3.cell? ⟨w.heap.size, 11, none⟩ = some (.int .u32 d3) := blk_cell HS3.out.bA rfl
  have x12 : w3.cell? ⟨w.heap.size, 12, none⟩ = some (.bool h) := blk_cell HS3.out.bA rfl
  have hr := sRight_any (k, c, l, t, o, e, w_, v, d0, d1, d2, d3, h) w3 H32.out H64.out
  rw [HX.out] at hr
  simp only [mv] at hr
  go_wp2_with fail
  refine hr.mono ?_
  rintro r w5 ⟨rfl, hb⟩
  have HS5 := Hid.in (HS3.out.step hb)
  have HLa := Hid.in (HL1.out.step hb)
  have HLb := Hid.in (HL2.out.step hb)
  clear hr hb HL1 HL2 x0 x1 x2 x3 x4 x5 x6 x7 x8 x9 x10 x11 x12
  have HL1 := HLa
  have HL2 := HLb
  clear HLa HLb
  have x0 : w5.cell? ⟨w.heap.size + 1, 0, none⟩ = some (.int .i64 nk) := blk_cell HS5.out.bB rfl
  have x1 : w5.cell? ⟨w.heap.size + 1, 1, none⟩ = some (.int .i64 nc) := blk_cell HS5.out.bB rfl
  have x2 : w5.cell? ⟨w.heap.size + 1, 2, none⟩ = some (.int .i64 nl) := blk_cell HS5.out.bB rfl
  have x3 : w5.cell? ⟨w.heap.size + 1, 3, none⟩ = some (.int .i64 nt) := blk_cell HS5.out.bB rfl
  have x4 : w5.cell? ⟨w.heap.size + 1, 4, none⟩ = some (.int .i64 no) := blk_cell HS5.out.bB rfl
  have x5 : w5.cell? ⟨w.heap.size + 1, 5, none⟩ = some (.int .i64 ne) := blk_cell HS5.out.bB rfl
  have x6 : w5.cell? ⟨w.heap.size + 1, 6, none⟩ = some (.int .i64 nw) := blk_cell HS5.out.bB rfl
  have x7 : w5.cell? ⟨w.heap.size + 1, 7, none⟩ = some (.int .u32 nv) := blk_cell HS5.out.bB rfl
  have x8 : w5.cell? ⟨w.heap.size + 1, 8, none⟩ = some (.int .u32 nd0) := blk_cell HS5.out.bB rfl
  have x9 : w5.cell? ⟨w.heap.size + 1, 9, none⟩ = some (.int .u32 nd1) := blk_cell HS5.out.bB rfl
  have x10 : w5.cell? ⟨w.heap.size + 1, 10, none⟩ = some (.int .u32 nd2) := blk_cell HS5.out.bB rfl
  have x11 : w5.cell? ⟨w.heap.size + 1, 11, none⟩ = some (.int .u32 nd3) := blk_cell HS5.out.bB rfl
  have x12 : w5.cell? ⟨w.heap.size + 1, 12, none⟩ = some (.bool nh) := blk_cell HS5.out.bB rfl
  have hr := sRight_any (nk, nc, nl, nt, no, ne, nw, nv, nd0, nd1, nd2, nd3, nh) w5 G32.out G64.out
  rw [HY.out] at hr
  simp only [mv] at hr
  go_wp2_with fail
  refine hr.mono ?_
  rintro r w6 ⟨rfl, hb⟩
  have HS6 := Hid.in (HS5.out.step hb)
  have HLa := Hid.in (HL1.out.step hb)
  have HLb := Hid.in (HL2.out.step hb)
  clear hr hb HL1 HL2 x0 x1 x2 x3 x4 x5 x6 x7 x8 x9 x10 x11 x12
  have HL1 := HLa
  have HL2 := HLb
  clear HLa HLb
  go_wp2_with fail
  refine (msgRuns_any _ sa (HE.out.below HS6.out.be)).mono ?_
  rintro r w7 ⟨rfl, hb⟩
  have HS7 := Hid.in (HS6.out.step hb)
  clear hb
  go_wp2
  go_ret
  exact ⟨rfl, HS7.out.be⟩

set_option maxHeartbeats 6400000 in
set_option maxRecDepth 20000 in
theorem msgApart_10 (w : World) (sa : Nat → Addr) (hE : Env10 w sa) (k c l t o e w_ v d0 d1 d2 d3 : Int) (h : Bool) (nk nc nl nt no ne nw nv nd0 nd1 nd2 nd3 : Int) (nh : Bool) (h32 : M32 (k, c, l, t, o, e, w_, v, d0, d1, d2, d3, h)) (h64 : M64 (k, c, l, t, o, e, w_, v, d0, d1, d2, d3, h)) (g32 : M32 (nk, nc, nl, nt, no, ne, nw, nv, nd0, nd1, nd2, nd3, nh)) (g64 : M64 (nk, nc, nl, nt, no, ne, nw, nv, nd0, nd1, nd2, nd3, nh)) (hx : rtB (k, c, l, t, o, e, w_, v, d0, d1, d2, d3, h) = true) (hy : rtB (nk, nc, nl, nt, no, ne, nw, nv, nd0, nd1, nd2, nd3, nh) = false) :
    Calls Tryd.prog 8 #[.agg #[.int .i64 k, .int .i64 c, .int .i64 l, .int .i64 t, .int .i64 o, .int .i64 e, .int .i64 w_, .int .u32 v, .int .u32 d0, .int .u32 d1, .int .u32 d2, .int .u32 d3, .bool h], .agg #[.int .i64 nk, .int .i64 nc, .int .i64 nl, .int .i64 nt, .int .i64 no, .int .i64 ne, .int .i64 nw, .int .u32 nv, .int .u32 nd0, .int .u32 nd1, .int .u32 nd2, .int .u32 nd3, .bool nh]] w fun r w' => r = .returned (.bool true) ∧ Below w.heap.size w w' := by
  have HX := Hid.in hx
  have HY := Hid.in hy
  clear hx hy
  have HE := Hid.in hE
  have H32 := Hid.in h32
  have H64 := Hid.in h64
  have G32 := Hid.in g32
  have G64 := Hid.in g64
  clear hE h32 h64 g32 g64
  have HS0 : Hid (SM2 w #[.int .i64 k, .int .i64 c, .int .i64 l, .int .i64 t, .int .i64 o, .int .i64 e, .int .i64 w_, .int .u32 v, .int .u32 d0, .int .u32 d1, .int .u32 d2, .int .u32 d3, .bool h] #[.int .i64 nk, .int .i64 nc, .int .i64 nl, .int .i64 nt, .int .i64 no, .int .i64 ne, .int .i64 nw, .int .u32 nv, .int .u32 nd0, .int .u32 nd1, .int .u32 nd2, .int .u32 nd3, .bool nh] ((w.alloc (.cells #[.int .i64 k, .int .i64 c, .int .i64 l, .int .i64 t, .int .i64 o, .int .i64 e, .int .i64 w_, .int .u32 v, .int .u32 d0, .int .u32 d1, .int .u32 d2, .int .u32 d3, .bool h] 28)).alloc (.cells #[.int .i64 nk, .int .i64 nc, .int .i64 nl, .int .i64 nt, .int .i64 no, .int .i64 ne, .int .i64 nw, .int .u32 nv, .int .u32 nd0, .int .u32 nd1, .int .u32 nd2, .int .u32 nd3, .bool nh] 28))) := Hid.in (SM2.start _ _ _)
  go_enter Tryd.func8, Tryd.ntmps8
  go_upto_region 1 with fail
  generalize hX : ((w.alloc (.cells #[.int .i64 k, .int .i64 c, .int .i64 l, .int .i64 t, .int .i64 o, .int .i64 e, .int .i64 w_, .int .u32 v, .int .u32 d0, .int .u32 d1, .int .u32 d2, .int .u32 d3, .bool h] 28)).alloc (.cells #[.int .i64 nk, .int .i64 nc, .int .i64 nl, .int .i64 nt, .int .i64 no, .int .i64 ne, .int .i64 nw, .int .u32 nv, .int .u32 nd0, .int .u32 nd1, .int .u32 nd2, .int .u32 nd3, .bool nh] 28)) = W0 at *
  clear hX
  have sd : ∀ W, SM2 w #[.int .i64 k, .int .i64 c, .int .i64 l, .int .i64 t, .int .i64 o, .int .i64 e, .int .i64 w_, .int .u32 v, .int .u32 d0, .int .u32 d1, .int .u32 d2, .int .u32 d3, .bool h] #[.int .i64 nk, .int .i64 nc, .int .i64 nl, .int .i64 nt, .int .i64 no, .int .i64 ne, .int .i64 nw, .int .u32 nv, .int .u32 nd0, .int .u32 nd1, .int .u32 nd2, .int .u32 nd3, .bool nh] W → SM2 w #[.int .i64 k, .int .i64 c, .int .i64 l, .int .i64 t, .int .i64 o, .int .i64 e, .int .i64 w_, .int .u32 v, .int .u32 d0, .int .u32 d1, .int .u32 d2, .int .u32 d3, .bool h] #[.int .i64 nk, .int .i64 nc, .int .i64 nl, .int .i64 nt, .int .i64 no, .int .i64 ne, .int .i64 nw, .int .u32 nv, .int .u32 nd0, .int .u32 nd1, .int .u32 nd2, .int .u32 nd3, .bool nh] W.drew := fun W h => h.step (Below.refl _ _).drew
  have sl : ∀ (W : World) (ob : Obj), SM2 w #[.int .i64 k, .int .i64 c, .int .i64 l, .int .i64 t, .int .i64 o, .int .i64 e, .int .i64 w_, .int .u32 v, .int .u32 d0, .int .u32 d1, .int .u32 d2, .int .u32 d3, .bool h] #[.int .i64 nk, .int .i64 nc, .int .i64 nl, .int .i64 nt, .int .i64 no, .int .i64 ne, .int .i64 nw, .int .u32 nv, .int .u32 nd0, .int .u32 nd1, .int .u32 nd2, .int .u32 nd3, .bool nh] W → SM2 w #[.int .i64 k, .int .i64 c, .int .i64 l, .int .i64 t, .int .i64 o, .int .i64 e, .int .i64 w_, .int .u32 v, .int .u32 d0, .int .u32 d1, .int .u32 d2, .int .u32 d3, .bool h] #[.int .i64 nk, .int .i64 nc, .int .i64 nl, .int .i64 nt, .int .i64 no, .int .i64 ne, .int .i64 nw, .int .u32 nv, .int .u32 nd0, .int .u32 nd1, .int .u32 nd2, .int .u32 nd3, .bool nh] (W.alloc ob) := fun W ob h => h.step (below_alloc _ _)
  have p0 : ∀ W, SM2 w #[.int .i64 k, .int .i64 c, .int .i64 l, .int .i64 t, .int .i64 o, .int .i64 e, .int .i64 w_, .int .u32 v, .int .u32 d0, .int .u32 d1, .int .u32 d2, .int .u32 d3, .bool h] #[.int .i64 nk, .int .i64 nc, .int .i64 nl, .int .i64 nt, .int .i64 no, .int .i64 ne, .int .i64 nw, .int .u32 nv, .int .u32 nd0, .int .u32 nd1, .int .u32 nd2, .int .u32 nd3, .bool nh] W → W.cell? ⟨w.heap.size, 0, none⟩ = some (.int .i64 k) := fun W h => blk_cell h.bA rfl
  have p1 : ∀ W, SM2 w #[.int .i64 k, .int .i64 c, .int .i64 l, .int .i64 t, .int .i64 o, .int .i64 e, .int .i64 w_, .int .u32 v, .int .u32 d0, .int .u32 d1, .int .u32 d2, .int .u32 d3, .bool h] #[.int .i64 nk, .int .i64 nc, .int .i64 nl, .int .i64 nt, .int .i64 no, .int .i64 ne, .int .i64 nw, .int .u32 nv, .int .u32 nd0, .int .u32 nd1, .int .u32 nd2, .int .u32 nd3, .bool nh] W → W.cell? ⟨w.heap.size, 1, none⟩ = some (.int .i64 c) := fun W h => blk_cell h.bA rfl
  have p2 : ∀ W, SM2 w #[.int .i64 k, .int .i64 c, .int .i64 l, .int .i64 t, .int .i64 o, .int .i64 e, .int .i64 w_, .int .u32 v, .int .u32 d0, .int .u32 d1, .int .u32 d2, .int .u32 d3, .bool h] #[.int .i64 nk, .int .i64 nc, .int .i64 nl, .int .i64 nt, .int .i64 no, .int .i64 ne, .int .i64 nw, .int .u32 nv, .int .u32 nd0, .int .u32 nd1, .int .u32 nd2, .int .u32 nd3, .bool nh] W → W.cell? ⟨w.heap.size, 2, none⟩ = some (.int .i64 l) := fun W h => blk_cell h.bA rfl
  have p3 : ∀ W, SM2 w #[.int .i64 k, .int .i64 c, .int .i64 l, .int .i64 t, .int .i64 o, .int .i64 e, .int .i64 w_, .int .u32 v, .int .u32 d0, .int .u32 d1, .int .u32 d2, .int .u32 d3, .bool h] #[.int .i64 nk, .int .i64 nc, .int .i64 nl, .int .i64 nt, .int .i64 no, .int .i64 ne, .int .i64 nw, .int .u32 nv, .int .u32 nd0, .int .u32 nd1, .int .u32 nd2, .int .u32 nd3, .bool nh] W → W.cell? ⟨w.heap.size, 3, none⟩ = some (.int .i64 t) := fun W h => blk_cell h.bA rfl
  have p4 : ∀ W, SM2 w #[.int .i64 k, .int .i64 c, .int .i64 l, .int .i64 t, .int .i64 o, .int .i64 e, .int .i64 w_, .int .u32 v, .int .u32 d0, .int .u32 d1, .int .u32 d2, .int .u32 d3, .bool h] #[.int .i64 nk, .int .i64 nc, .int .i64 nl, .int .i64 nt, .int .i64 no, .int .i64 ne, .int .i64 nw, .int .u32 nv, .int .u32 nd0, .int .u32 nd1, .int .u32 nd2, .int .u32 nd3, .bool nh] W → W.cell? ⟨w.heap.size, 4, none⟩ = some (.int .i64 o) := fun W h => blk_cell h.bA rfl
  have p5 : ∀ W, SM2 w #[.int .i64 k, .int .i64 c, .int .i64 l, .int .i64 t, .int .i64 o, .int .i64 e, .int .i64 w_, .int .u32 v, .int .u32 d0, .int .u32 d1, .int .u32 d2, .int .u32 d3, .bool h] #[.int .i64 nk, .int .i64 nc, .int .i64 nl, .int .i64 nt, .int .i64 no, .int .i64 ne, .int .i64 nw, .int .u32 nv, .int .u32 nd0, .int .u32 nd1, .int .u32 nd2, .int .u32 nd3, .bool nh] W → W.cell? ⟨w.heap.size, 5, none⟩ = some (.int .i64 e) := fun W h => blk_cell h.bA rfl
  have p6 : ∀ W, SM2 w #[.int .i64 k, .int .i64 c, .int .i64 l, .int .i64 t, .int .i64 o, .int .i64 e, .int .i64 w_, .int .u32 v, .int .u32 d0, .int .u32 d1, .int .u32 d2, .int .u32 d3, .bool h] #[.int .i64 nk, .int .i64 nc, .int .i64 nl, .int .i64 nt, .int .i64 no, .int .i64 ne, .int .i64 nw, .int .u32 nv, .int .u32 nd0, .int .u32 nd1, .int .u32 nd2, .int .u32 nd3, .bool nh] W → W.cell? ⟨w.heap.size, 6, none⟩ = some (.int .i64 w_) := fun W h => blk_cell h.bA rfl
  have p7 : ∀ W, SM2 w #[.int .i64 k, .int .i64 c, .int .i64 l, .int .i64 t, .int .i64 o, .int .i64 e, .int .i64 w_, .int .u32 v, .int .u32 d0, .int .u32 d1, .int .u32 d2, .int .u32 d3, .bool h] #[.int .i64 nk, .int .i64 nc, .int .i64 nl, .int .i64 nt, .int .i64 no, .int .i64 ne, .int .i64 nw, .int .u32 nv, .int .u32 nd0, .int .u32 nd1, .int .u32 nd2, .int .u32 nd3, .bool nh] W → W.cell? ⟨w.heap.size, 7, none⟩ = some (.int .u32 v) := fun W h => blk_cell h.bA rfl
  have p8 : ∀ W, SM2 w #[.int .i64 k, .int .i64 c, .int .i64 l, .int .i64 t, .int .i64 o, .int .i64 e, .int .i64 w_, .int .u32 v, .int .u32 d0, .int .u32 d1, .int .u32 d2, .int .u32 d3, .bool h] #[.int .i64 nk, .int .i64 nc, .int .i64 nl, .int .i64 nt, .int .i64 no, .int .i64 ne, .int .i64 nw, .int .u32 nv, .int .u32 nd0, .int .u32 nd1, .int .u32 nd2, .int .u32 nd3, .bool nh] W → W.cell? ⟨w.heap.size, 8, none⟩ = some (.int .u32 d0) := fun W h => blk_cell h.bA rfl
  have p9 : ∀ W, SM2 w #[.int .i64 k, .int .i64 c, .int .i64 l, .int .i64 t, .int .i64 o, .int .i64 e, .int .i64 w_, .int .u32 v, .int .u32 d0, .int .u32 d1, .int .u32 d2, .int .u32 d3, .bool h] #[.int .i64 nk, .int .i64 nc, .int .i64 nl, .int .i64 nt, .int .i64 no, .int .i64 ne, .int .i64 nw, .int .u32 nv, .int .u32 nd0, .int .u32 nd1, .int .u32 nd2, .int .u32 nd3, .bool nh] W → W.cell? ⟨w.heap.size, 9, none⟩ = some (.int .u32 d1) := fun W h => blk_cell h.bA rfl
  have p10 : ∀ W, SM2 w #[.int .i64 k, .int .i64 c, .int .i64 l, .int .i64 t, .int .i64 o, .int .i64 e, .int .i64 w_, .int .u32 v, .int .u32 d0, .int .u32 d1, .int .u32 d2, .int .u32 d3, .bool h] #[.int .i64 nk, .int .i64 nc, .int .i64 nl, .int .i64 nt, .int .i64 no, .int .i64 ne, .int .i64 nw, .int .u32 nv, .int .u32 nd0, .int .u32 nd1, .int .u32 nd2, .int .u32 nd3, .bool nh] W → W.cell? ⟨w.heap.size, 10, none⟩ = some (.int .u32 d2) := fun W h => blk_cell h.bA rfl
  have p11 : ∀ W, SM2 w #[.int .i64 k, .int .i64 c, .int .i64 l, .int .i64 t, .int .i64 o, .int .i64 e, .int .i64 w_, .int .u32 v, .int .u32 d0, .int .u32 d1, .int .u32 d2, .int .u32 d3, .bool h] #[.int .i64 nk, .int .i64 nc, .int .i64 nl, .int .i64 nt, .int .i64 no, .int .i64 ne, .int .i64 nw, .int .u32 nv, .int .u32 nd0, .int .u32 nd1, .int .u32 nd2, .int .u32 nd3, .bool nh] W → W.cell? ⟨w.heap.size, 11, none⟩ = some (.int .u32 d3) := fun W h => blk_cell h.bA rfl
  have p12 : ∀ W, SM2 w #[.int .i64 k, .int .i64 c, .int .i64 l, .int .i64 t, .int .i64 o, .int .i64 e, .int .i64 w_, .int .u32 v, .int .u32 d0, .int .u32 d1, .int .u32 d2, .int .u32 d3, .bool h] #[.int .i64 nk, .int .i64 nc, .int .i64 nl, .int .i64 nt, .int .i64 no, .int .i64 ne, .int .i64 nw, .int .u32 nv, .int .u32 nd0, .int .u32 nd1, .int .u32 nd2, .int .u32 nd3, .bool nh] W → W.cell? ⟨w.heap.size, 12, none⟩ = some (.bool h) := fun W h => blk_cell h.bA rfl
  have q0 : ∀ W, SM2 w #[.int .i64 k, .int .i64 c, .int .i64 l, .int .i64 t, .int .i64 o, .int .i64 e, .int .i64 w_, .int .u32 v, .int .u32 d0, .int .u32 d1, .int .u32 d2, .int .u32 d3, .bool h] #[.int .i64 nk, .int .i64 nc, .int .i64 nl, .int .i64 nt, .int .i64 no, .int .i64 ne, .int .i64 nw, .int .u32 nv, .int .u32 nd0, .int .u32 nd1, .int .u32 nd2, .int .u32 nd3, .bool nh] W → W.cell? ⟨w.heap.size + 1, 0, none⟩ = some (.int .i64 nk) := fun W h => blk_cell h.bB rfl
  have q1 : ∀ W, SM2 w #[.int .i64 k, .int .i64 c, .int .i64 l, .int .i64 t, .int .i64 o, .int .i64 e, .int .i64 w_, .int .u32 v, .int .u32 d0, .int .u32 d1, .int .u32 d2, .int .u32 d3, .bool h] #[.int .i64 nk, .int .i64 nc, .int .i64 nl, .int .i64 nt, .int .i64 no, .int .i64 ne, .int .i64 nw, .int .u32 nv, .int .u32 nd0, .int .u32 nd1, .int .u32 nd2, .int .u32 nd3, .bool nh] W → W.cell? ⟨w.heap.size + 1, 1, none⟩ = some (.int .i64 nc) := fun W h => blk_cell h.bB rfl
  have q2 : ∀ W, SM2 w #[.int .i64 k, .int .i64 c, .int .i64 l, .int .i64 t, .int .i64 o, .int .i64 e, .int .i64 w_, .int .u32 v, .int .u32 d0, .int .u32 d1, .int .u32 d2, .int .u32 d3, .bool h] #[.int .i64 nk, .int .i64 nc, .int .i64 nl, .int .i64 nt, .int .i64 no, .int .i64 ne, .int .i64 nw, .int .u32 nv, .int .u32 nd0, .int .u32 nd1, .int .u32 nd2, .int .u32 nd3, .bool nh] W → W.cell? ⟨w.heap.size + 1, 2, none⟩ = some (.int .i64 nl) := fun W h => blk_cell h.bB rfl
  have q3 : ∀ W, SM2 w #[.int .i64 k, .int .i64 c, .int .i64 l, .int .i64 t, .int .i64 o, .int .i64 e, .int .i64 w_, .int .u32 v, .int .u32 d0, .int .u32 d1, .int .u32 d2, .int .u32 d3, .bool h] #[.int .i64 nk, .int .i64 nc, .int .i64 nl, .int .i64 nt, .int .i64 no, .int .i64 ne, .int .i64 nw, .int .u32 nv, .int .u32 nd0, .int .u32 nd1, .int .u32 nd2, .int .u32 nd3, .bool nh] W → W.cell? ⟨w.heap.size + 1, 3, none⟩ = some (.int .i64 nt) := fun W h => blk_cell h.bB rfl
  have q4 : ∀ W, SM2 w #[.int .i64 k, .int .i64 c, .int .i64 l, .int .i64 t, .int .i64 o, .int .i64 e, .int .i64 w_, .int .u32 v, .int .u32 d0, .int .u32 d1, .int .u32 d2, .int .u32 d3, .bool h] #[.int .i64 nk, .int .i64 nc, .int .i64 nl, .int .i64 nt, .int .i64 no, .int .i64 ne, .int .i64 nw, .int .u32 nv, .int .u32 nd0, .int .u32 nd1, .int .u32 nd2, .int .u32 nd3, .bool nh] W → W.cell? ⟨w.heap.size + 1, 4, none⟩ = some (.int .i64 no) := fun W h => blk_cell h.bB rfl
  have q5 : ∀ W, SM2 w #[.int .i64 k, .int .i64 c, .int .i64 l, .int .i64 t, .int .i64 o, .int .i64 e, .int .i64 w_, .int .u32 v, .int .u32 d0, .int .u32 d1, .int .u32 d2, .int .u32 d3, .bool h] #[.int .i64 nk, .int .i64 nc, .int .i64 nl, .int .i64 nt, .int .i64 no, .int .i64 ne, .int .i64 nw, .int .u32 nv, .int .u32 nd0, .int .u32 nd1, .int .u32 nd2, .int .u32 nd3, .bool nh] W → W.cell? ⟨w.heap.size + 1, 5, none⟩ = some (.int .i64 ne) := fun W h => blk_cell h.bB rfl
  have q6 : ∀ W, SM2 w #[.int .i64 k, .int .i64 c, .int .i64 l, .int .i64 t, .int .i64 o, .int .i64 e, .int .i64 w_, .int .u32 v, .int .u32 d0, .int .u32 d1, .int .u32 d2, .int .u32 d3, .bool h] #[.int .i64 nk, .int .i64 nc, .int .i64 nl, .int .i64 nt, .int .i64 no, .int .i64 ne, .int .i64 nw, .int .u32 nv, .int .u32 nd0, .int .u32 nd1, .int .u32 nd2, .int .u32 nd3, .bool nh] W → W.cell? ⟨w.heap.size + 1, 6, none⟩ = some (.int .i64 nw) := fun W h => blk_cell h.bB rfl
  have q7 : ∀ W, SM2 w #[.int .i64 k, .int .i64 c, .int .i64 l, .int .i64 t, .int .i64 o, .int .i64 e, .int .i64 w_, .int .u32 v, .int .u32 d0, .int .u32 d1, .int .u32 d2, .int .u32 d3, .bool h] #[.int .i64 nk, .int .i64 nc, .int .i64 nl, .int .i64 nt, .int .i64 no, .int .i64 ne, .int .i64 nw, .int .u32 nv, .int .u32 nd0, .int .u32 nd1, .int .u32 nd2, .int .u32 nd3, .bool nh] W → W.cell? ⟨w.heap.size + 1, 7, none⟩ = some (.int .u32 nv) := fun W h => blk_cell h.bB rfl
  have q8 : ∀ W, SM2 w #[.int .i64 k, .int .i64 c, .int .i64 l, .int .i64 t, .int .i64 o, .int .i64 e, .int .i64 w_, .int .u32 v, .int .u32 d0, .int .u32 d1, .int .u32 d2, .int .u32 d3, .bool h] #[.int .i64 nk, .int .i64 nc, .int .i64 nl, .int .i64 nt, .int .i64 no, .int .i64 ne, .int .i64 nw, .int .u32 nv, .int .u32 nd0, .int .u32 nd1, .int .u32 nd2, .int .u32 nd3, .bool nh] W → W.cell? ⟨w.heap.size + 1, 8, none⟩ = some (.int .u32 nd0) := fun W h => blk_cell h.bB rfl
  have q9 : ∀ W, SM2 w #[.int .i64 k, .int .i64 c, .int .i64 l, .int .i64 t, .int .i64 o, .int .i64 e, .int .i64 w_, .int .u32 v, .int .u32 d0, .int .u32 d1, .int .u32 d2, .int .u32 d3, .bool h] #[.int .i64 nk, .int .i64 nc, .int .i64 nl, .int .i64 nt, .int .i64 no, .int .i64 ne, .int .i64 nw, .int .u32 nv, .int .u32 nd0, .int .u32 nd1, .int .u32 nd2, .int .u32 nd3, .bool nh] W → W.cell? ⟨w.heap.size + 1, 9, none⟩ = some (.int .u32 nd1) := fun W h => blk_cell h.bB rfl
  have q10 : ∀ W, SM2 w #[.int .i64 k, .int .i64 c, .int .i64 l, .int .i64 t, .int .i64 o, .int .i64 e, .int .i64 w_, .int .u32 v, .int .u32 d0, .int .u32 d1, .int .u32 d2, .int .u32 d3, .bool h] #[.int .i64 nk, .int .i64 nc, .int .i64 nl, .int .i64 nt, .int .i64 no, .int .i64 ne, .int .i64 nw, .int .u32 nv, .int .u32 nd0, .int .u32 nd1, .int .u32 nd2, .int .u32 nd3, .bool nh] W → W.cell? ⟨w.heap.size + 1, 10, none⟩ = some (.int .u32 nd2) := fun W h => blk_cell h.bB rfl
  have q11 : ∀ W, SM2 w #[.int .i64 k, .int .i64 c, .int .i64 l, .int .i64 t, .int .i64 o, .int .i64 e, .int .i64 w_, .int .u32 v, .int .u32 d0, .int .u32 d1, .int .u32 d2, .int .u32 d3, .bool h] #[.int .i64 nk, .int .i64 nc, .int .i64 nl, .int .i64 nt, .int .i64 no, .int .i64 ne, .int .i64 nw, .int .u32 nv, .int .u32 nd0, .int .u32 nd1, .int .u32 nd2, .int .u32 nd3, .bool nh] W → W.cell? ⟨w.heap.size + 1, 11, none⟩ = some (.int .u32 nd3) := fun W h => blk_cell h.bB rfl
  have q12 : ∀ W, SM2 w #[.int .i64 k, .int .i64 c, .int .i64 l, .int .i64 t, .int .i64 o, .int .i64 e, .int .i64 w_, .int .u32 v, .int .u32 d0, .int .u32 d1, .int .u32 d2, .int .u32 d3, .bool h] #[.int .i64 nk, .int .i64 nc, .int .i64 nl, .int .i64 nt, .int .i64 no, .int .i64 ne, .int .i64 nw, .int .u32 nv, .int .u32 nd0, .int .u32 nd1, .int .u32 nd2, .int .u32 nd3, .bool nh] W → W.cell? ⟨w.heap.size + 1, 12, none⟩ = some (.bool nh) := fun W h => blk_cell h.bB rfl
  have hS := HS0.out
  have hp := fun W => sPut_any (k, c, l, t, o, e, w_, v, d0, d1, d2, d3, h) W H32.out H64.out
  have hq := fun W => sPut_any (nk, nc, nl, nt, no, ne, nw, nv, nd0, nd1, nd2, nd3, nh) W G32.out G64.out
  change ∀ W, Calls _ _ _ _ (fun r w' => ∃ ao N cap, r = .returned (.slice ao N cap) ∧ N = (putB (k, c, l, t, o, e, w_, v, d0, d1, d2, d3, h)).length ∧ Lie w' ao cap (putB (k, c, l, t, o, e, w_, v, d0, d1, d2, d3, h)) ∧ Below W.heap.size W w') at hp
  change ∀ W, Calls _ _ _ _ (fun r w' => ∃ ao N cap, r = .returned (.slice ao N cap) ∧ N = (putB (nk, nc, nl, nt, no, ne, nw, nv, nd0, nd1, nd2, nd3, nh)).length ∧ Lie w' ao cap (putB (nk, nc, nl, nt, no, ne, nw, nv, nd0, nd1, nd2, nd3, nh)) ∧ Below W.heap.size W w') at hq
  simp only [mv] at hp hq
  have HP := Hid.in hp
  have HQ := Hid.in hq
  clear hp hq
  go_region_held3 (SM2 w #[.int .i64 k, .int .i64 c, .int .i64 l, .int .i64 t, .int .i64 o, .int .i64 e, .int .i64 w_, .int .u32 v, .int .u32 d0, .int .u32 d1, .int .u32 d2, .int .u32 d3, .bool h] #[.int .i64 nk, .int .i64 nc, .int .i64 nl, .int .i64 nt, .int .i64 no, .int .i64 ne, .int .i64 nw, .int .u32 nv, .int .u32 nd0, .int .u32 nd1, .int .u32 nd2, .int .u32 nd3, .bool nh]) (first | go_keep | (simp [*]; done))
    (first
      | (refine (HP.out _).mono ?_; rintro r w1 ⟨a1, M1, c1, rfl, hN1, hL1, hb1⟩; have hS1 : SM2 w #[.int .i64 k, .int .i64 c, .int .i64 l, .int .i64 t, .int .i64 o, .int .i64 e, .int .i64 w_, .int .u32 v, .int .u32 d0, .int .u32 d1, .int .u32 d2, .int .u32 d3, .bool h] #[.int .i64 nk, .int .i64 nc, .int .i64 nl, .int .i64 nt, .int .i64 no, .int .i64 ne, .int .i64 nw, .int .u32 nv, .int .u32 nd0, .int .u32 nd1, .int .u32 nd2, .int .u32 nd3, .bool nh] w1 := SM2.step (by assumption) hb1; have HS1 := Hid.in hS1; have HN1 := Hid.in hN1; have HL1 := Hid.in hL1; clear HP hN1 hL1 hb1)
      | (refine (HQ.out _).mono ?_; rintro r w2 ⟨a2, M2, c2, rfl, hN2, hL2, hb2⟩; have hS2 : SM2 w #[.int .i64 k, .int .i64 c, .int .i64 l, .int .i64 t, .int .i64 o, .int .i64 e, .int .i64 w_, .int .u32 v, .int .u32 d0, .int .u32 d1, .int .u32 d2, .int .u32 d3, .bool h] #[.int .i64 nk, .int .i64 nc, .int .i64 nl, .int .i64 nt, .int .i64 no, .int .i64 ne, .int .i64 nw, .int .u32 nv, .int .u32 nd0, .int .u32 nd1, .int .u32 nd2, .int .u32 nd3, .bool nh] w2 := HS1.out.step hb2; have HS2 := Hid.in hS2; have HN2 := Hid.in hN2; have HL2 := Hid.in hL2; have HL1b := Hid.in (HL1.out.step hb2); clear HQ hN2 hL2 hb2))
  clear sd sl hS hS1 hS2 HS1 HL1 HS0 p0 p1 p2 p3 p4 p5 p6 p7 p8 p9 p10 p11 p12 q0 q1 q2 q3 q4 q5 q6 q7 q8 q9 q10 q11 q12
  have HL1 := HL1b
  clear HL1b
  have m1 : 1 ≤ M1 := by rw [HN1.out, putB_yes _ HX.out]; exact (encM_len _ H32.out H64.out).2
  have m1' : ¬ ((M1 : Int) = 0) := by omega
  have m1b : ((M1 : Int) == 0) = false := by simpa using m1'
  obtain rfl : M2 = 0 := by rw [HN2.out, putB_no _ HY.out]; rfl
  have x0 : w2.cell? ⟨w.heap.size, 0, none⟩ = some (.int .i64 k) := blk_cell HS2.out.bA rfl
  have x1 : w2.cell? ⟨w.heap.size, 1, none⟩ = some (.int .i64 c) := blk_cell HS2.out.bA rfl
  have x2 : w2.cell? ⟨w.heap.size, 2, none⟩ = some (.int .i64 l) := blk_cell HS2.out.bA rfl
  have x3 : w2.cell? ⟨w.heap.size, 3, none⟩ = some (.int .i64 t) := blk_cell HS2.out.bA rfl
  have x4 : w2.cell? ⟨w.heap.size, 4, none⟩ = some (.int .i64 o) := blk_cell HS2.out.bA rfl
  have x5 : w2.cell? ⟨w.heap.size, 5, none⟩ = some (.int .i64 e) := blk_cell HS2.out.bA rfl
  have x6 : w2.cell? ⟨w.heap.size, 6, none⟩ = some (.int .i64 w_) := blk_cell HS2.out.bA rfl
  have x7 : w2.cell? ⟨w.heap.size, 7, none⟩ = some (.int .u32 v) := blk_cell HS2.out.bA rfl
  have x8 : w2.cell? ⟨w.heap.size, 8, none⟩ = some (.int .u32 d0) := blk_cell HS2.out.bA rfl
  have x9 : w2.cell? ⟨w.heap.size, 9, none⟩ = some (.int .u32 d1) := blk_cell HS2.out.bA rfl
  have x10 : w2.cell? ⟨w.heap.size, 10, none⟩ = some (.int .u32 d2) := blk_cell HS2.out.bA rfl
  have x11 : w2.cell? ⟨w.heap.size, 11, none⟩ = some (.int .u32 d3) := blk_cell HS2.out.bA rfl
  have x12 : w2.cell? ⟨w.heap.size, 12, none⟩ = some (.bool h) := blk_cell HS2.out.bA rfl
  have hr := sRight_any (k, c, l, t, o, e, w_, v, d0, d1, d2, d3, h) w2 H32.out H64.out
  rw [HX.out] at hr
  simp only [mv] at hr
  go_wp2_with fail
  refine hr.mono ?_
  rintro r w3 ⟨rfl, hb⟩
  have HS3 := Hid.in (HS2.out.step hb)
  have HLa := Hid.in (HL1.out.step hb)
  have HLb := Hid.in (HL2.out.step hb)
  clear hr hb HL1 HL2 x0 x1 x2 x3 x4 x5 x6 x7 x8 x9 x10 x11 x12
  have HL1 := HLa
  have HL2 := HLb
  clear HLa HLb
  have x0 : w3.cell? ⟨w.heap.size + 1, 0, none⟩ = some (.int .i64 nk) := blk_cell HS3.out.bB rfl
  have x1 : w3.cell? ⟨w.heap.size + 1, 1, none⟩ = some (.int .i64 nc) := blk_cell HS3.out.bB rfl
  have x2 : w3.cell? ⟨w.heap.size + 1, 2, none⟩ = some (.int .i64 nl) := blk_cell HS3.out.bB rfl
  have x3 : w3.cell? ⟨w.heap.size + 1, 3, none⟩ = some (.int .i64 nt) := blk_cell HS3.out.bB rfl
  have x4 : w3.cell? ⟨w.heap.size + 1, 4, none⟩ = some (.int .i64 no) := blk_cell HS3.out.bB rfl
  have x5 : w3.cell? ⟨w.heap.size + 1, 5, none⟩ = some (.int .i64 ne) := blk_cell HS3.out.bB rfl
  have x6 : w3.cell? ⟨w.heap.size + 1, 6, none⟩ = some (.int .i64 nw) := blk_cell HS3.out.bB rfl
  have x7 : w3.cell? ⟨w.heap.size + 1, 7, none⟩ = some (.int .u32 nv) := blk_cell HS3.out.bB rfl
  have x8 : w3.cell? ⟨w.heap.size + 1, 8, none⟩ = some (.int .u32 nd0) := blk_cell HS3.out.bB rfl
  have x9 : w3.cell? ⟨w.heap.size + 1, 9, none⟩ = some (.int .u32 nd1) := blk_cell HS3.out.bB rfl
  have x10 : w3.cell? ⟨w.heap.size + 1, 10, none⟩ = some (.int .u32 nd2) := blk_cell HS3.out.bB rfl
  have x11 : w3.cell? ⟨w.heap.size + 1, 11, none⟩ = some (.int .u32 nd3) := blk_cell HS3.out.bB rfl
  have x12 : w3.cell? ⟨w.heap.size + 1, 12, none⟩ = some (.bool nh) := blk_cell HS3.out.bB rfl
  have hr := sRight_any (nk, nc, nl, nt, no, ne, nw, nv, nd0, nd1, nd2, nd3, nh) w3 G32.out G64.out
  rw [HY.out] at hr
  simp only [mv] at hr
  go_wp2_with fail
  refine hr.mono ?_
  rintro r w4 ⟨rfl, hb⟩
  have HS4 := Hid.in (HS3.out.step hb)
  have HLa := Hid.in (HL1.out.step hb)
  have HLb := Hid.in (HL2.out.step hb)
  clear hr hb HL1 HL2 x0 x1 x2 x3 x4 x5 x6 x7 x8 x9 x10 x11 x12
  have HL1 := HLa
  have HL2 := HLb
  clear HLa HLb
  have x0 : w4.cell? ⟨w.heap.size, 0, none⟩ = some (.int .i64 k) := blk_cell HS4.out.bA rfl
  have x1 : w4.cell? ⟨w.heap.size, 1, none⟩ = some (.int .i64 c) := blk_cell HS4.out.bA rfl
  have x2 : w4.cell? ⟨w.heap.size, 2, none⟩ = some (.int .i64 l) := blk_cell HS4.out.bA rfl
  have x3 : w4.cell? ⟨w.heap.size, 3, none⟩ = some (.int .i64 t) := blk_cell HS4.out.bA rfl
  have x4 : w4.cell? ⟨w.heap.size, 4, none⟩ = some (.int .i64 o) := blk_cell HS4.out.bA rfl
  have x5 : w4.cell? ⟨w.heap.size, 5, none⟩ = some (.int .i64 e) := blk_cell HS4.out.bA rfl
  have x6 : w4.cell? ⟨w.heap.size, 6, none⟩ = some (.int .i64 w_) := blk_cell HS4.out.bA rfl
  have x7 : w4.cell? ⟨w.heap.size, 7, none⟩ = some (.int .u32 v) := blk_cell HS4.out.bA rfl
  have x8 : w4.cell? ⟨w.heap.size, 8, none⟩ = some (.int .u32 d0) := blk_cell HS4.out.bA rfl
  have x9 : w4.cell? ⟨w.heap.size, 9, none⟩ = some (.int .u32 d1) := blk_cell HS4.out.bA rfl
  have x10 : w4.cell? ⟨w.heap.size, 10, none⟩ = some (.int .u32 d2) := blk_cell HS4.out.bA rfl
  have x11 : w4.cell? ⟨w.heap.size, 11, none⟩ = some (.int .u32 d3) := blk_cell HS4.out.bA rfl
  have x12 : w4.cell? ⟨w.heap.size, 12, none⟩ = some (.bool h) := blk_cell HS4.out.bA rfl
  have hr := sRight_any (k, c, l, t, o, e, w_, v, d0, d1, d2, d3, h) w4 H32.out H64.out
  rw [HX.out] at hr
  simp only [mv] at hr
  go_wp2_with fail
  refine hr.mono ?_
  rintro r w5 ⟨rfl, hb⟩
  have HS5 := Hid.in (HS4.out.step hb)
  have HLa := Hid.in (HL1.out.step hb)
  have HLb := Hid.in (HL2.out.step hb)
  clear hr hb HL1 HL2 x0 x1 x2 x3 x4 x5 x6 x7 x8 x9 x10 x11 x12
  have HL1 := HLa
  have HL2 := HLb
  clear HLa HLb
  have x0 : w5.cell? ⟨w.heap.size + 1, 0, none⟩ = some (.int .i64 nk) := blk_cell HS5.out.bB rfl
  have x1 : w5.cell? ⟨w.heap.size + 1, 1, none⟩ = some (.int .i64 nc) := blk_cell HS5.out.bB rfl
  have x2 : w5.cell? ⟨w.heap.size + 1, 2, none⟩ = some (.int .i64 nl) := blk_cell HS5.out.bB rfl
  have x3 : w5.cell? ⟨w.heap.size + 1, 3, none⟩ = some (.int .i64 nt) := blk_cell HS5.out.bB rfl
  have x4 : w5.cell? ⟨w.heap.size + 1, 4, none⟩ = some (.int .i64 no) := blk_cell HS5.out.bB rfl
  have x5 : w5.cell? ⟨w.heap.size + 1, 5, none⟩ = some (.int .i64 ne) := blk_cell HS5.out.bB rfl
  have x6 : w5.cell? ⟨w.heap.size + 1, 6, none⟩ = some (.int .i64 nw) := blk_cell HS5.out.bB rfl
  have x7 : w5.cell? ⟨w.heap.size + 1, 7, none⟩ = some (.int .u32 nv) := blk_cell HS5.out.bB rfl
  have x8 : w5.cell? ⟨w.heap.size + 1, 8, none⟩ = some (.int .u32 nd0) := blk_cell HS5.out.bB rfl
  have x9 : w5.cell? ⟨w.heap.size + 1, 9, none⟩ = some (.int .u32 nd1) := blk_cell HS5.out.bB rfl
  have x10 : w5.cell? ⟨w.heap.size + 1, 10, none⟩ = some (.int .u32 nd2) := blk_cell HS5.out.bB rfl
  have x11 : w5.cell? ⟨w.heap.size + 1, 11, none⟩ = some (.int .u32 nd3) := blk_cell HS5.out.bB rfl
  have x12 : w5.cell? ⟨w.heap.size + 1, 12, none⟩ = some (.bool nh) := blk_cell HS5.out.bB rfl
  have hr := sRight_any (nk, nc, nl, nt, no, ne, nw, nv, nd0, nd1, nd2, nd3, nh) w5 G32.out G64.out
  rw [HY.out] at hr
  simp only [mv] at hr
  go_wp2_with fail
  refine hr.mono ?_
  rintro r w6 ⟨rfl, hb⟩
  have HS6 := Hid.in (HS5.out.step hb)
  have HLa := Hid.in (HL1.out.step hb)
  have HLb := Hid.in (HL2.out.step hb)
  clear hr hb HL1 HL2 x0 x1 x2 x3 x4 x5 x6 x7 x8 x9 x10 x11 x12
  have HL1 := HLa
  have HL2 := HLb
  clear HLa HLb
  go_wp2_with fail
  refine (msgRuns_any _ sa (HE.out.below HS6.out.be)).mono ?_
  rintro r w7 ⟨rfl, hb⟩
  have HS7 := Hid.in (HS6.out.step hb)
  clear hb
  go_wp2
  go_ret
  exact ⟨rfl, HS7.out.be⟩

end Go.Proofs.YtmlmiejanfcopaaDoor

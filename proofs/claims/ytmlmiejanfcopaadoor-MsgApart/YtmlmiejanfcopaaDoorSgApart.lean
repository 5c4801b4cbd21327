/- DERIVED of the program: MsgApart returns true. Own work. -/
import Derived.Test.YtmlmiejanfcopaaDoorSgApartN
namespace Go.Proofs.YtmlmiejanfcopaaDoor
open Go.RowKit Go.Extern.Stop Go.Stop Go.Extern

theorem tails (m n : M13) (h32 : M32 m) (hr : rtP m) (g32 : M32 n) (g64 : M64 n) : gotM (encM m ++ encM n) = (5, zero13) := gotM_tail m h32 hr _ (encM_len n g32 g64).2
theorem both_byte (m n : M13) : ∀ x ∈ encM m ++ encM n, x < 256 := by
  intro x hx
  rcases List.mem_append.1 hx with h | h
  · exact encM_byte _ x h
  · exact encM_byte _ x h
theorem not_head (m n : M13) (h32 : M32 m) (hr : rtP m) (g32 : M32 n) (gr : rtP n) (hne : m ≠ n) : decide ((encM n).take (encM m).length = encM m) = false := by
  apply decide_eq_false
  intro h
  refine hne (encM_inj m n h32 hr g32 gr ((encM n).drop (encM m).length) ?_)
  have := List.take_append_drop (encM m).length (encM n)
  rw [h] at this
  exact this.symm

set_option maxHeartbeats 6400000 in
set_option maxRecDepth 20000 in
theorem msgApart_eq (w : World) (sa : Nat → Addr) (hE : Env10 w sa) (k c l t o e w_ v d0 d1 d2 d3 : Int) (h : Bool) (nk nc nl nt no ne nw nv nd0 nd1 nd2 nd3 : Int) (nh : Bool) (h32 : M32 (k, c, l, t, o, e, w_, v, d0, d1, d2, d3, h)) (h64 : M64 (k, c, l, t, o, e, w_, v, d0, d1, d2, d3, h)) (g32 : M32 (nk, nc, nl, nt, no, ne, nw, nv, nd0, nd1, nd2, nd3, nh)) (g64 : M64 (nk, nc, nl, nt, no, ne, nw, nv, nd0, nd1, nd2, nd3, nh)) (hx : rtB (k, c, l, t, o, e, w_, v, d0, d1, d2, d3, h) = true) (hy : rtB (nk, nc, nl, nt, no, ne, nw, nv, nd0, nd1, nd2, nd3, nh) = true) (hd : eqB (k, c, l, t, o, e, w_, v, d0, d1, d2, d3, h) (nk, nc, nl, nt, no, ne, nw, nv, nd0, nd1, nd2, nd3, nh) = true) :
    Calls Tryd.prog 8 #[.agg #[.int .i64 k, .int .i64 c, .int .i64 l, .int .i64 t, .int .i64 o, .int .i64 e, .int .i64 w_, .int .u32 v, .int .u32 d0, .int .u32 d1, .int .u32 d2, .int .u32 d3, .bool h], .agg #[.int .i64 nk, .int .i64 nc, .int .i64 nl, .int .i64 nt, .int .i64 no, .int .i64 ne, .int .i64 nw, .int .u32 nv, .int .u32 nd0, .int .u32 nd1, .int .u32 nd2, .int .u32 nd3, .bool nh]] w fun r w' => r = .returned (.bool true) ∧ Below w.heap.size w w' := by
  have HX := Hid.in hx
  have HY := Hid.in hy
  have HD := Hid.in hd
  clear hx hy hd
  have HE := Hid.in hE
  have H32 := Hid.in h32
  have H64 := Hid.in h64
  have G32 := Hid.in g32
  have G64 := Hid.in g64
  clear hE h32 h64 g32 g64
  have HS0 : Hid (SM2 w #[.int .i64 k, .int .i64 c, .int .i64 l, .int .i64 t, .int .i64 o, .int .i64 e, .int .i64 w_, .int .u32 v, .int .u32 d0, .int .u32 d1, .int .u32 d2, .int .u32 d3, .bool h] #[.int .i64 nk, .int .i64 nc, .int .i64 nl, .int .i64 nt, .int .i64 no, .int .i64 ne, .int .i64 nw, .int .u32 nv, .int .u32 nd0, .int .u32 nd1, .int .u32 nd2, .int .u32 nd3, .bool nh] ((w.alloc (.cells #[.int .i64 k, .int .i64 c, .int .i64 l, .int .i64 t, .int .i64 o, .int .i64 e, .int .i64 w_, .int .u32 v, .int .u32 d0, .int .u32 d1, .int .u32 d2, .int .u32 d3, .bool h] 28)).alloc (.cells #[.int .i64 nk, .int .i64 nc, .int .i64 nl, .int .i64 nt, .int .i64 no, .int .i64 ne, .int .i64 nw, .int .u32 nv, .int .u32 nd0, .int .u32 nd1, .int .u32 nd2, .int .u32 nd3, .bool nh] 28))) := Hid.in (SM2.start _ _ _)
  go_enter Tryd.func8, Tryd.ntmps8
  go_upto_region 1 with fail
  generalize hX : ((w.alloc (.cells #[.int .i64 k, .int .i64 c, .int .i64 l, .int .i64 t, .int .i64 o, .int .i64 e, .int .i64 w_, .int .u32 v, .int .u32 d0, .int .u32 d1, .int .u32 d2, .int .u32 d3, .bool h] 28)).alloc (.cells #[.int .i64 nk, .int .i64 nc, .int .i64 nl, .int .i64 nt, .int .i64 no, .int .i64 ne, .int .i64 nw, .int .u32 nv, .int .u32 nd0, .int .u32 nd1, .int .u32 nd2, .int .u32 nd3, .bool nh] 28)) = W0 at *
  clear hX
  have sd : ∀ W, SM2 w #[.int .i64 k, .int .i64 c, .int .i64 l, .int .i64 t, .int .i64 o, .int .i64 e, .int .i64 w_, .int .u32 v, .int .u32 d0, .int .u32 d1, .int .u32 d2, .int .u32 d3, .bool h] #[.int .i64 nk, .int .i64 nc, .int .i64 nl, .int .i64 nt, .int .i64 no, .int .i64 ne, .int .i64 nw, .int .u32 nv, .int .u32 nd0, .int .u32 nd1, .int .u32 nd2, .int .u32 nd3, .bool nh] W → SM2 w #[.int .i64 k, .int .i64 c, .int .i64 l, .int .i64 t, .int .i64 o, .int .i64 e, .int .i64 w_, .int .u32 v, .int .u32 d0, .int .u32 d1, .int .u32 d2, .int .u32 d3, .bool h] #[.int .i64 nk, .int .i64 nc, .int .i64 nl, .int .i64 nt, .int .i64 no, .int .i64 ne, .int .i64 nw, .int .u32 nv, .int .u32 nd0, .int .u32 nd1, .int .u32 nd2, .int .u32 nd3, .bool nh] W.drew := fun W h => h.step (Below.refl _ _).drew
  have sl : ∀ (W : World) (ob : Obj), SM2 w #[.int .i64 k, .int .i64 c, .int .i64 l, .int .i64 t, .int .i64 o, .int .i64 e, .int .i64 w_, .int .u32 v, .int .u32 d0, .int .u32 d1, .int .u32 d2, .int .u32 d3, .bool h] #[.int .i64 nk, .int .i64 nc, .int .i64 nl, .int .i64 nt, .int .i64 no, .int .i64 ne, .int .i64 nw, .int .u32 nv, .int .u32 nd0, .int .u32 nd1, .int .u32 nd2, .int .u32 nd3, .bool nh] W → SM2 w #[.int .i64 k, .int .i64 c, .int .i64 l, .int .i64 t, .int .i64 o, .int .i64 e, .int .i64 w_, .int .u32 v, .int .u32 d0, .int .u32 d1, .int .u32 d2, .int .u32 d3, .bool h] #[.int .i64 nk, .int .i64 nc, .int .i64 nl, .int .i64 nt, .int .i64 no, .int .i64 ne, .int .i64 nw, .int .u32 nv, .int .u32 nd0, .int .u32 nd1, .int .u32 nd2, .int .u32 nd3, .bool nh] (W.alloc ob) := fun W ob h => h.step (below_alloc _ _)
  have p0 : ∀ W, SM2 w #[.int .i64 k, .int .i64 c, .int .i64 l, .int .i64 t, .int .i64 o, .int .i64 e, .int .i64 w_, .int .u32 v, .int .u32 d0, .int .u32 d1, .int .u32 d2, .int .u32 d3, .bool h] #[.int .i64 nk, .int .i64 nc, .int .i64 nl, .int .i64 nt, .int .i64 no, .int .i64 ne, .int .i64 nw, .int .u32 nv, .int .u32 nd0, .int .u32 nd1, .int .u32 nd2, .int .u32 nd3, .bool nh] W → W.cell? ⟨w.heap.size, 0, none⟩ = some (.int .i64 k) := fun W h => blk_cell h.bA rfl
  have p1 : ∀ W, SM2 w #[.int .i64 k, .int .i64 c, .int .i64 l, .int .i64 t, .int .i64 o, .int .i64 e, .int .i64 w_, .int .u32 v, .int .u32 d0, .int .u32 d1, .int .u32 d2, .int .u32 d3, .bool h] #[.int .i64 nk, .int .i64 nc, .int .i64 nl, .int .i64 nt, .int .i64 no, .int .i64 ne, .int .i64 nw, .int .u32 nv, .int .u32 nd0, .int .u32 nd1, .int .u32 nd2, .int .u32 nd3, .bool nh] W → W.cell? ⟨w.heap.size, 1, none⟩ = some (.int .i64 c) := fun W h => blk_cell h.bA rfl
  have p2 : ∀ W, SM2 w #[.int .i64 k, .int .i64 c, .int .i64 l, .int .i64 t, .int .i64 o, .int .i64 e, .int .i64 w_, .int .u32 v, .int .u32 d0, .int .u32 d1, .int .u32 d2, .int .u32 d3, .bool h] #[.int .i64 nk, .int .i64 nc, .int .i64 nl, .int .i64 nt, .int .i64 no, .int .i64 ne, .int .i64 nw, .int .u32 nv, .int .u32 nd0, .int .u32 nd1, .int .u32 nd2, .int .u32 nd3, .bool nh] W → W.cell? ⟨w.heap.size, 2, none⟩ = some (.int .i64 l) := fun W h => blk_cell h.bA rfl
  have p3 : ∀ W, SM2 w #[.int .i64 k, .int .i64 c, .int .i64 l, .int .i64 t, .int .i64 o, .int .i64 e, .int .i64 w_, .int .u32 v, .int .u32 d0, .int .u32 d1, .int .u32 d2, .int .u32 d3, .bool h] #[.int .i64 nk, .int .i64 nc, .int .i64 nl, .int .i64 nt, .int .i64 no, .int .i64 ne, .int .i64 nw, .int .u32 nv, .int .u32 nd0, .int .u32 nd1, .int .u32 nd2, .int .u32 nd3, .bool nh] W → W.cell? ⟨w.heap.size, 3, none⟩ = some (.int .i64 t) := fun W h => blk_cell h.bA rfl
  have p4 : ∀ W, SM2 w #[.int .i64 k, .int .i64 c, .int .i64 l, .int .i64 t, .int .i64 o, .int .i64 e, .int .i64 w_, .int .u32 v, .int .u32 d0, .int .u32 d1, .int .u32 d2, .int .u32 d3, .bool h] #[.int .i64 nk, .int .i64 nc, .int .i64 nl, .int .i64 nt, .int .i64 no, .int .i64 ne, .int .i64 nw, .int .u32 nv, .int .u32 nd0, .int .u32 nd1, .int .u32 nd2, .int .u32 nd3, .bool nh] W → W.cell? ⟨w.heap.size, 4, none⟩ = some (.int .i64 o) := fun W h => blk_cell h.bA rfl
  have p5 : ∀ W, SM2 w #[.int .i64 k, .int .i64 c, .int .i64 l, .int .i64 t, .int .i64 o, .int .i64 e, .int .i64 w_, .int .u32 v, .int .u32 d0, .int .u32 d1, .int .u32 d2, .int .u32 d3, .bool h] #[.int .i64 nk, .int .i64 nc, .int .i64 nl, .int .i64 nt, .int .i64 no, .int .i64 ne, .int .i64 nw, .int .u32 nv, .int .u32 nd0, .int .u32 nd1, .int .u32 nd2, .int .u32 nd3, .bool nh] W → W.cell? ⟨w.heap.size, 5, none⟩ = some (.int .i64 e) := fun W h => blk_cell h.bA rfl
  have p6 : ∀ W, SM2 w #[.int .i64 k, .int .i64 c, .int .i64 l, .int .i64 t, .int .i64 o, .int .i64 e, .int .i64 w_, .int .u32 v, .int .u32 d0, .int .u32 d1, .int .u32 d2, .int .u32 d3, .bool h] #[.int .i64 nk, .int .i64 nc, .int .i64 nl, .int .i64 nt, .int .i64 no, .int .i64 ne, .int .i64 nw, .int .u32 nv, .int .u32 nd0, .int .u32 nd1, .int .u32 nd2, .int .u32 nd3, .bool nh] W → W.cell? ⟨w.heap.size, 6, none⟩ = some (.int .i64 w_) := fun W h => blk_cell h.bA rfl
  have p7 : ∀ W, SM2 w #[.int .i64 k, .int .i64 c, .int .i64 l, .int .i64 t, .int .i64 o, .int .i64 e, .int .i64 w_, .int .u32 v, .int .u32 d0, .int .u32 d1, .int .u32 d2, .int .u32 d3, .bool h] #[.int .i64 nk, .int .i64 nc, .int .i64 nl, .int .i64 nt, .int .i64 no, .int .i64 ne, .int .i64 nw, .int .u32 nv, .int .u32 nd0, .int .u32 nd1, .int .u32 nd2, .int .u32 nd3, .bool nh] W → W.cell? ⟨w.heap.size, 7, none⟩ = some (.int .u32 v) := fun W h => blk_cell h.bA rfl
  have p8 : ∀ W, SM2 w #[.int .i64 k, .int .i64 c, .int .i64 l, .int .i64 t, .int .i64 o, .int .i64 e, .int .i64 w_, .int .u32 v, .int .u32 d0, .int .u32 d1, .int .u32 d2, .int .u32 d3, .bool h] #[.int .i64 nk, .int .i64 nc, .int .i64 nl, .int .i64 nt, .int .i64 no, .int .i64 ne, .int .i64 nw, .int .u32 nv, .int .u32 nd0, .int .u32 nd1, .int .u32 nd2, .int .u32 nd3, .bool nh] W → W.cell? ⟨w.heap.size, 8, none⟩ = some (.int .u32 d0) := fun W h => blk_cell h.bA rfl
  have p9 : ∀ W, SM2 w #[.int .i64 k, .int .i64 c, .int .i64 l, .int .i64 t, .int .i64 o, .int .i64 e, .int .i64 w_, .int .u32 v, .int .u32 d0, .int .u32 d1, .int .u32 d2, .int .u32 d3, .bool h] #[.int .i64 nk, .int .i64 nc, .int .i64 nl, .int .i64 nt, .int .i64 no, .int .i64 ne, .int .i64 nw, .int .u32 nv, .int .u32 nd0, .int .u32 nd1, .int .u32 nd2, .int .u32 nd3, .bool nh] W → W.cell? ⟨w.heap.size, 9, none⟩ = some (.int .u32 d1) := fun W h => blk_cell h.bA rfl
  have p10 : ∀ W, SM2 w #[.int .i64 k, .int .i64 c, .int .i64 l, .int .i64 t, .int .i64 o, .int .i64 e, .int .i64 w_, .int .u32 v, .int .u32 d0, .int .u32 d1, .int .u32 d2, .int .u32 d3, .bool h] #[.int .i64 nk, .int .i64 nc, .int .i64 nl, .int .i64 nt, .int .i64 no, .int .i64 ne, .int .i64 nw, .int .u32 nv, .int .u32 nd0, .int .u32 nd1, .int .u32 nd2, .int .u32 nd3, .bool nh] W → W.cell? ⟨w.heap.size, 10, none⟩ = some (.int .u32 d2) := fun W h => blk_cell h.bA rfl
  have p11 : ∀ W, SM2 w #[.int .i64 k, .int .i64 c, .int .i64 l, .int .i64 t, .int .i64 o, .int .i64 e, .int .i64 w_, .int .u32 v, .int .u32 d0, .int .u32 d1, .int .u32 d2, .int .u32 d3, .bool h] #[.int .i64 nk, .int .i64 nc, .int .i64 nl, .int .i64 nt, .int .i64 no, .int .i64 ne, .int .i64 nw, .int .u32 nv, .int .u32 nd0, .int .u32 nd1, .int .u32 nd2, .int .u32 nd3, .bool nh] W → W.cell? ⟨w.heap.size, 11, none⟩ = some (.int .u32 d3) := fun W h => blk_cell h.bA rfl
  have p12 : ∀ W, SM2 w #[.int .i64 k, .int .i64 c, .int .i64 l, .int .i64 t, .int .i64 o, .int .i64 e, .int .i64 w_, .int .u32 v, .int .u32 d0, .int .u32 d1, .int .u32 d2, .int .u32 d3, .bool h] #[.int .i64 nk, .int .i64 nc, .int .i64 nl, .int .i64 nt, .int .i64 no, .int .i64 ne, .int .i64 nw, .int .u32 nv, .int .u32 nd0, .int .u32 nd1, .int .u32 nd2, .int .u32 nd3, .bool nh] W → W.cell? ⟨w.heap.size, 12, none⟩ = some (.bool h) := fun W h => blk_cell h.bA rfl
  have q0 : ∀ W, SM2 w #[.int .i64 k, .int .i64 c, .int .i64 l, .int .i64 t, .int .i64 o, .int .i64 e, .int .i64 w_, .int .u32 v, .int .u32 d0, .int .u32 d1, .int .u32 d2, .int .u32 d3, .bool h] #[.int .i64 nk, .int .i64 nc, .int .i64 nl, .int .i64 nt, .int .i64 no, .int .i64 ne, .int .i64 nw, .int .u32 nv, .int .u32 nd0, .int .u32 nd1, .int .u32 nd2, .int .u32 nd3, .bool nh] W → W.cell? ⟨w.heap.size + 1, 0, none⟩ = some (.int .i64 nk) := fun W h => blk_cell h.bB rfl
  have q1 : ∀ W, SM2 w #[.int .i64 k, .int .i64 c, .int .i64 l, .int .i64 t, .int .i64 o, .int .i64 e, .int .i64 w_, .int .u32 v, .int .u32 d0, .int .u32 d1, .int .u32 d2, .int .u32 d3, .bool h] #[.int .i64 nk, .int .i64 nc, .int .i64 nl, .int .i64 nt, .int .i64 no, .int .i64 ne, .int .i64 nw, .int .u32 nv, .int .u32 nd0, .int .u32 nd1, .int .u32 nd2, .int .u32 nd3, .bool nh] W → W.cell? ⟨w.heap.size + 1, 1, none⟩ = some (.int .i64 nc) := fun W h => blk_cell h.bB rfl
  have q2 : ∀ W, SM2 w #[.int .i64 k, .int .i64 c, .int .i64 l, .int .i64 t, .int .i64 o, .int .i64 e, .int .i64 w_, .int .u32 v, .int .u32 d0, .int .u32 d1, .int .u32 d2, .int .u32 d3, .bool h] #[.int .i64 nk, .int .i64 nc, .int .i64 nl, .int .i64 nt, .int .i64 no, .int .i64 ne, .int .i64 nw, .int .u32 nv, .int .u32 nd0, .int .u32 nd1, .int .u32 nd2, .int .u32 nd3, .bool nh] W → W.cell? ⟨w.heap.size + 1, 2, none⟩ = some (.int .i64 nl) := fun W h => blk_cell h.bB rfl
  have q3 : ∀ W, SM2 w #[.int .i64 k, .int .i64 c, .int .i64 l, .int .i64 t, .int .i64 o, .int .i64 e, .int .i64 w_, .int .u32 v, .int .u32 d0, .int .u32 d1, .int .u32 d2, .int .u32 d3, .bool h] #[.int .i64 nk, .int .i64 nc, .int .i64 nl, .int .i64 nt, .int .i64 no, .int .i64 ne, .int .i64 nw, .int .u32 nv, .int .u32 nd0, .int .u32 nd1, .int .u32 nd2, .int .u32 nd3, .bool nh] W → W.cell? ⟨w.heap.size + 1, 3, none⟩ = some (.int .i64 nt) := fun W h => blk_cell h.bB rfl
  have q4 : ∀ W, SM2 w #[.int .i64 k, .int .i64 c, .int .i64 l, .int .i64 t, .int .i64 o, .int .i64 e, .int .i64 w_, .int .u32 v, .int .u32 d0, .int .u32 d1, .int .u32 d2, .int .u32 d3, .bool h] #[.int .i64 nk, .int .i64 nc, .int .i64 nl, .int .i64 nt, .int .i64 no, .int .i64 ne, .int .i64 nw, .int .u32 nv, .int .u32 nd0, .int .u32 nd1, .int .u32 nd2, .int .u32 nd3, .bool nh] W → W.cell? ⟨w.heap.size + 1, 4, none⟩ = some (.int .i64 no) := fun W h => blk_cell h.bB rfl
  have q5 : ∀ W, SM2 w #[.int .i64 k, .int .i64 c, .int .i64 l, .int .i64 t, .int .i64 o, .int .i64 e, .int .i64 w_, .int .u32 v, .int .u32 d0, .int .u32 d1, .int .u32 d2, .int .u32 d3, .bool h] #[.int .i64 nk, .int .i64 nc, .int .i64 nl, .int .i64 nt, .int .i64 no, .int .i64 ne, .int .i64 nw, .int .u32 nv, .int .u32 nd0, .int .u32 nd1, .int .u32 nd2, .int .u32 nd3, .bool nh] W → W.cell? ⟨w.heap.size + 1, 5, none⟩ = some (.int .i64 ne) := fun W h => blk_cell h.bB rfl
  have q6 : ∀ W, SM2 w #[.int .i64 k, .int .i64 c, .int .i64 l, .int .i64 t, .int .i64 o, .int .i64 e, .int .i64 w_, .int .u32 v, .int .u32 d0, .int .u32 d1, .int .u32 d2, .int .u32 d3, .bool h] #[.int .i64 nk, .int .i64 nc, .int .i64 nl, .int .i64 nt, .int .i64 no, .int .i64 ne, .int .i64 nw, .int .u32 nv, .int .u32 nd0, .int .u32 nd1, .int .u32 nd2, .int .u32 nd3, .bool nh] W → W.cell? ⟨w.heap.size + 1, 6, none⟩ = some (.int .i64 nw) := fun W h => blk_cell h.bB rfl
  have q7 : ∀ W, SM2 w #[.int .i64 k, .int .i64 c, .int .i64 l, .int .i64 t, .int .i64 o, .int .i64 e, .int .i64 w_, .int .u32 v, .int .u32 d0, .int .u32 d1, .int .u32 d2, .int .u32 d3, .bool h] #[.int .i64 nk, .int .i64 nc, .int .i64 nl, .int .i64 nt, .int .i64 no, .int .i64 ne, .int .i64 nw, .int .u32 nv, .int .u32 nd0, .int .u32 nd1, .int .u32 nd2, .int .u32 nd3, .bool nh] W → W.cell? ⟨w.heap.size + 1, 7, none⟩ = some (.int .u32 nv) := fun W h => blk_cell h.bB rfl
  have q8 : ∀ W, SM2 w #[.int .i64 k, .int .i64 c, .int .i64 l, .int .i64 t, .int .i64 o, .int .i64 e, .int .i64 w_, .int .u32 v, .int .u32 d0, .int .u32 d1, .int .u32 d2, .int .u32 d3, .bool h] #[.int .i64 nk, .int .i64 nc, .int .i64 nl, .int .i64 nt, .int .i64 no, .int .i64 ne, .int .i64 nw, .int .u32 nv, .int .u32 nd0, .int .u32 nd1, .int .u32 nd2, .int .u32 nd3, .bool nh] W → W.cell? ⟨w.heap.size + 1, 8, none⟩ = some (.int .u32 nd0) := fun W h => blk_cell h.bB rfl
  have q9 : ∀ W, SM2 w #[.int .i64 k, .int .i64 c, .int .i64 l, .int .i64 t, .int .i64 o, .int .i64 e, .int .i64 w_, .int .u32 v, .int .u32 d0, .int .u32 d1, .int .u32 d2, .int .u32 d3, .bool h] #[.int .i64 nk, .int .i64 nc, .int .i64 nl, .int .i64 nt, .int .i64 no, .int .i64 ne, .int .i64 nw, .int .u32 nv, .int .u32 nd0, .int .u32 nd1, .int .u32 nd2, .int .u32 nd3, .bool nh] W → W.cell? ⟨w.heap.size + 1, 9, none⟩ = some (.int .u32 nd1) := fun W h => blk_cell h.bB rfl
  have q10 : ∀ W, SM2 w #[.int .i64 k, .int .i64 c, .int .i64 l, .int .i64 t, .int .i64 o, .int .i64 e, .int .i64 w_, .int .u32 v, .int .u32 d0, .int .u32 d1, .int .u32 d2, .int .u32 d3, .bool h] #[.int .i64 nk, .int .i64 nc, .int .i64 nl, .int .i64 nt, .int .i64 no, .int .i64 ne, .int .i64 nw, .int .u32 nv, .int .u32 nd0, .int .u32 nd1, .int .u32 nd2, .int .u32 nd3, .bool nh] W → W.cell? ⟨w.heap.size + 1, 10, none⟩ = some (.int .u32 nd2) := fun W h => blk_cell h.bB rfl
  have q11 : ∀ W, SM2 w #[.int .i64 k, .int .i64 c, .int .i64 l, .int .i64 t, .int .i64 o, .int .i64 e, .int .i64 w_, .int .u32 v, .int .u32 d0, .int .u32 d1, .int .u32 d2, .int .u32 d3, .bool h] #[.int .i64 nk, .int .i64 nc, .int .i64 nl, .int .i64 nt, .int .i64 no, .int .i64 ne, .int .i64 nw, .int .u32 nv, .int .u32 nd0, .int .u32 nd1, .int .u32 nd2, .int .u32 nd3, .bool nh] W → W.cell? ⟨w.heap.size + 1, 11, none⟩ = some (.int .u32 nd3) := fun W h => blk_cell h.bB rfl
  have q12 : ∀ W, SM2 w #[.int .i64 k, .int .i64 c, .int .i64 l, .int .i64 t, .int .i64 o, .int .i64 e, .int .i64 w_, .int .u32 v, .int .u32 d0, .int .u32 d1, .int .u32 d2, .int .u32 d3, .bool h] #[.int .i64 nk, .int .i64 nc, .int .i64 nl, .int .i64 nt, .int .i64 no, .int .i64 ne, .int .i64 nw, .int .u32 nv, .int .u32 nd0, .int .u32 nd1, .int .u32 nd2, .int .u32 nd3, .bool nh] W → W.cell? ⟨w.heap.size + 1, 12, none⟩ = some (.bool nh) := fun W h => blk_cell h.bB rfl
  have hS := HS0.out
  have hp := fun W => sPut_any (k, c, l, t, o, e, w_, v, d0, d1, d2, d3, h) W H32.out H64.out
  have hq := fun W => sPut_any (nk, nc, nl, nt, no, ne, nw, nv, nd0, nd1, nd2, nd3, nh) W G32.out G64.out
  change ∀ W, Calls _ _ _ _ (fun r w' => ∃ ao N cap, r = .returned (.slice ao N cap) ∧ N = (putB (k, c, l, t, o, e, w_, v, d0, d1, d2, d3, h)).length ∧ Lie w' ao cap (putB (k, c, l, t, o, e, w_, v, d0, d1, d2, d3, h)) ∧ Below W.heap.size W w') at hp
  change ∀ W, Calls _ _ _ _ (fun r w' => ∃ ao N cap, r = .returned (.slice ao N cap) ∧ N = (putB (nk, nc, nl, nt, no, ne, nw, nv, nd0, nd1, nd2, nd3, nh)).length ∧ Lie w' ao cap (putB (nk, nc, nl, nt, no, ne, nw, nv, nd0, nd1, nd2, nd3, nh)) ∧ Below W.heap.size W w') at hq
  simp only [mv] at hp hq
  have HP := Hid.in hp
  have HQ := Hid.in hq
  clear hp hq
  go_region_held3 (SM2 w #[.int .i64 k, .int .i64 c, .int .i64 l, .int .i64 t, .int .i64 o, .int .i64 e, .int .i64 w_, .int .u32 v, .int .u32 d0, .int .u32 d1, .int .u32 d2, .int .u32 d3, .bool h] #[.int .i64 nk, .int .i64 nc, .int .i64 nl, .int .i64 nt, .int .i64 no, .int .i64 ne, .int .i64 nw, .int .u32 nv, .int .u32 nd0, .int .u32 nd1, .int .u32 nd2, .int .u32 nd3, .bool nh]) (first | go_keep | (simp [*]; done))
    (first
      | (refine (HP.out _).mono ?_; rintro r w1 ⟨a1, M1, c1, rfl, hN1, hL1, hb1⟩; have hS1 : SM2 w #[.int .i64 k, .int .i64 c, .int .i64 l, .int .i64 t, .int .i64 o, .int .i64 e, .int .i64 w_, .int .u32 v, .int .u32 d0, .int .u32 d1, .int .u32 d2, .int .u32 d3, .bool h] #[.int .i64 nk, .int .i64 nc, .int .i64 nl, .int .i64 nt, .int .i64 no, .int .i64 ne, .int .i64 nw, .int .u32 nv, .int .u32 nd0, .int .u32 nd1, .int .u32 nd2, .int .u32 nd3, .bool nh] w1 := SM2.step (by assumption) hb1; have HS1 := Hid.in hS1; have HN1 := Hid.in hN1; have HL1 := Hid.in hL1; clear HP hN1 hL1 hb1)
      | (refine (HQ.out _).mono ?_; rintro r w2 ⟨a2, M2, c2, rfl, hN2, hL2, hb2⟩; have hS2 : SM2 w #[.int .i64 k, .int .i64 c, .int .i64 l, .int .i64 t, .int .i64 o, .int .i64 e, .int .i64 w_, .int .u32 v, .int .u32 d0, .int .u32 d1, .int .u32 d2, .int .u32 d3, .bool h] #[.int .i64 nk, .int .i64 nc, .int .i64 nl, .int .i64 nt, .int .i64 no, .int .i64 ne, .int .i64 nw, .int .u32 nv, .int .u32 nd0, .int .u32 nd1, .int .u32 nd2, .int .u32 nd3, .bool nh] w2 := HS1.out.step hb2; have HS2 := Hid.in hS2; have HN2 := Hid.in hN2; have HL2 := Hid.in hL2; have HL1b := Hid.in (HL1.out.step hb2); clear HQ hN2 hL2 hb2))
  clear sd sl hS hS1 hS2 HS1 HL1 HS0 p0 p1 p2 p3 p4 p5 p6 p7 p8 p9 p10 p11 p12 q0 q1 q2 q3 q4 q5 q6 q7 q8 q9 q10 q11 q12
  have HL1 := HL1b
  clear HL1b
  have m1 : 1 ≤ M1 ∧ M1 ≤ 110 := by rw [HN1.out, putB_yes _ HX.out]; exact ⟨(encM_len _ H32.out H64.out).2, (encM_len _ H32.out H64.out).1⟩
  obtain ⟨m10, m11⟩ := m1
  have m1' : ¬ ((M1 : Int) = 0) := by omega
  have m1b : ((M1 : Int) == 0) = false := by simpa using m1'
  have m2 : 1 ≤ M2 ∧ M2 ≤ 110 := by rw [HN2.out, putB_yes _ HY.out]; exact ⟨(encM_len _ G32.out G64.out).2, (encM_len _ G32.out G64.out).1⟩
  obtain ⟨m20, m21⟩ := m2
  have m2' : ¬ ((M2 : Int) = 0) := by omega
  have m2b : ((M2 : Int) == 0) = false := by simpa using m2'
  have E1 : Hid (M1 = (encM (k, c, l, t, o, e, w_, v, d0, d1, d2, d3, h)).length) := Hid.in (by rw [HN1.out, putB_yes _ HX.out])
  have E2 : Hid (M2 = (encM (nk, nc, nl, nt, no, ne, nw, nv, nd0, nd1, nd2, nd3, nh)).length) := Hid.in (by rw [HN2.out, putB_yes _ HY.out])
  have HLa := Hid.in (putB_yes _ HX.out ▸ HL1.out)
  have HLb := Hid.in (putB_yes _ HY.out ▸ HL2.out)
  clear HL1 HL2
  have HL1 := HLa
  have HL2 := HLb
  clear HLa HLb
  have x0 : w2.cell? ⟨w.heap.size, 0, none⟩ = some (.int .i64 k) := blk_cell HS2.out.bA rfl
  have x1 : w2.cell? ⟨w.heap.size, 1, none⟩ = some (.int .i64 c) := blk_cell HS2.out.bA rfl
  have x2 : w2.cell? ⟨w.heap.size, 2, none⟩ = some (.int .i64 l) := blk_cell HS2.out.bA rfl
  have x3 : w2.cell? ⟨w.heap.size, 3, none⟩ = some (.int .i64 t) := blk_cell HS2.out.bA rfl
  have x4 : w2.cell? ⟨w.heap.size, 4, none⟩ = some (.int .i64 o) := blk_cell HS2.out.bA rfl
  have x5 : w2.cell? ⟨w.heap.size, 5, none⟩ = some (.int .i64 e) := blk_cell HS2.out.bA rfl
  have x6 : w2.cell? ⟨w.heap.size, 6, none⟩ = some (.int .i64 w_) := blk_cell HS2.out.bA rfl
  have x7 : w2.cell? ⟨w.heap.size, 7, none⟩ = some (.int .u32 v) := blk_cell HS2.out.bA rfl
  have x8 : w2.cell? ⟨w.heap.size, 8, none⟩ = some (.int .u32 d0) := blk_cell HS2.out.bA rfl
  have x9 : w2.cell? ⟨w.heap.size, 9, none⟩ = some (.int .u32 d1) := blk_cell HS2.out.bA rfl
  have x10 : w2.cell? ⟨w.heap.size, 10, none⟩ = some (.int .u32 d2) := blk_cell HS2.out.bA rfl
  have x11 : w2.cell? ⟨w.heap.size, 11, none⟩ = some (.int .u32 d3) := blk_cell HS2.out.bA rfl
  have x12 : w2.cell? ⟨w.heap.size, 12, none⟩ = some (.bool h) := blk_cell HS2.out.bA rfl
  have hr := sRight_any (k, c, l, t, o, e, w_, v, d0, d1, d2, d3, h) w2 H32.out H64.out
  rw [HX.out] at hr
  simp only [mv] at hr
  go_wp2_with fail
  refine hr.mono ?_
  rintro r w3 ⟨rfl, hb⟩
  have HS3 := Hid.in (HS2.out.step hb)
  have HLa := Hid.in (HL1.out.step hb)
  have HLb := Hid.in (HL2.out.step hb)
  clear hr hb HL1 HL2 x0 x1 x2 x3 x4 x5 x6 x7 x8 x9 x10 x11 x12
  have HL1 := HLa
  have HL2 := HLb
  clear HLa HLb
  have x0 : w3.cell? ⟨w.heap.size + 1, 0, none⟩ = some (.int .i64 nk) := blk_cell HS3.out.bB rfl
  have x1 : w3.cell? ⟨w.heap.size + 1, 1, none⟩ = some (.int .i64 nc) := blk_cell HS3.out.bB rfl
  have x2 : w3.cell? ⟨w.heap.size + 1, 2, none⟩ = some (.int .i64 nl) := blk_cell HS3.out.bB rfl
  have x3 : w3.cell? ⟨w.heap.size + 1, 3, none⟩ = some (.int .i64 nt) := blk_cell HS3.out.bB rfl
  have x4 : w3.cell? ⟨w.heap.size + 1, 4, none⟩ = some (.int .i64 no) := blk_cell HS3.out.bB rfl
  have x5 : w3.cell? ⟨w.heap.size + 1, 5, none⟩ = some (.int .i64 ne) := blk_cell HS3.out.bB rfl
  have x6 : w3.cell? ⟨w.heap.size + 1, 6, none⟩ = some (.int .i64 nw) := blk_cell HS3.out.bB rfl
  have x7 : w3.cell? ⟨w.heap.size + 1, 7, none⟩ = some (.int .u32 nv) := blk_cell HS3.out.bB rfl
  have x8 : w3.cell? ⟨w.heap.size + 1, 8, none⟩ = some (.int .u32 nd0) := blk_cell HS3.out.bB rfl
  have x9 : w3.cell? ⟨w.heap.size + 1, 9, none⟩ = some (.int .u32 nd1) := blk_cell HS3.out.bB rfl
  have x10 : w3.cell? ⟨w.heap.size + 1, 10, none⟩ = some (.int .u32 nd2) := blk_cell HS3.out.bB rfl
  have x11 : w3.cell? ⟨w.heap.size + 1, 11, none⟩ = some (.int .u32 nd3) := blk_cell HS3.out.bB rfl
  have x12 : w3.cell? ⟨w.heap.size + 1, 12, none⟩ = some (.bool nh) := blk_cell HS3.out.bB rfl
  have hr := sRight_any (nk, nc, nl, nt, no, ne, nw, nv, nd0, nd1, nd2, nd3, nh) w3 G32.out G64.out
  rw [HY.out] at hr
  simp only [mv] at hr
  go_wp2_with fail
  refine hr.mono ?_
  rintro r w4 ⟨rfl, hb⟩
  have HS4 := Hid.in (HS3.out.step hb)
  have HLa := Hid.in (HL1.out.step hb)
  have HLb := Hid.in (HL2.out.step hb)
  clear hr hb HL1 HL2 x0 x1 x2 x3 x4 x5 x6 x7 x8 x9 x10 x11 x12
  have HL1 := HLa
  have HL2 := HLb
  clear HLa HLb
  have HO0 : Hid (Own (w4.alloc (.cells #[] 5)) w4.heap.size (some ⟨w4.heap.size, 0, none⟩) 0 0 []) := Hid.in (Own.lit0 w4 _ (Nat.le_refl _))
  have HB0 := Hid.in (below_alloc w4 (.cells #[] 5))
  have HLa := Hid.in (HL1.out.step HB0.out)
  have k1 : 0 + M1 ≤ 140737488355328 := by omega
  have k2 : M1 + M2 ≤ 140737488355328 := by omega
  have he := fun aa NN cc WW hE2 hN2 hL2 => sGet_any aa NN cc (encM (k, c, l, t, o, e, w_, v, d0, d1, d2, d3, h) ++ encM (nk, nc, nl, nt, no, ne, nw, nv, nd0, nd1, nd2, nd3, nh)) WW sa hE2 hN2 hL2 (both_byte _ _) (by rw [List.length_append, ← E1.out, ← E2.out]; omega)
  rw [tails _ _ H32.out ((rtB_iff _).1 HX.out) G32.out G64.out] at he
  simp only [mv, zero13] at he
  have HGE := Hid.in he
  clear he
  go_wp2_with (at_builtin; first
    | (refine wpList_concat rfl (.tmp 55) (.tmp 56) rfl w4.heap.size w4 (some ⟨w4.heap.size, 0, none⟩) a1 0 0 M1 c1 [] (encM (k, c, l, t, o, e, w_, v, d0, d1, d2, d3, h)) rfl HO0.out rfl E1.out HLa.out HB0.out (by simp) k1 ?_; intro a5 c5 w5 HO5 HB5; simp only [Nat.zero_add, List.nil_append] at HO5; have HLc := Hid.in (HL2.out.step HB5.out); have hs5 : w4.heap.size ≤ w5.heap.size := HB5.out.size)
    | (refine wpList_concat rfl (.tmp 57) (.tmp 58) rfl w4.heap.size w4 a5 a2 M1 c5 M2 c2 (encM (k, c, l, t, o, e, w_, v, d0, d1, d2, d3, h)) (encM (nk, nc, nl, nt, no, ne, nw, nv, nd0, nd1, nd2, nd3, nh)) rfl HO5.out rfl E2.out HLc.out HB5.out hs5 k2 ?_; intro a6 c6 w6 HO6 HB6))
  refine (HGE.out a6 (M1 + M2) c6 w6 (HE.out.below (bstep HS4.out.be (Nat.le_refl _) HB6.out)) (by rw [List.length_append, ← E1.out, ← E2.out]) HO6.out.lie).mono ?_
  rintro r w7 ⟨l7, rfl, hb7, _⟩
  have hb47 := bstep (bstep HB6.out (Nat.le_refl _) hb7) (Nat.le_refl _) (below_alloc w7 (.cells #[.int .i64 0, .int .i64 0, .int .i64 0, .int .i64 0, .int .i64 0, .int .i64 0, .int .i64 0, .int .u32 0, .int .u32 0, .int .u32 0, .int .u32 0, .int .u32 0, .bool false] 28))
  have HS8 := Hid.in (HS4.out.step hb47)
  have HLa := Hid.in (HL1.out.step hb47)
  have HLb := Hid.in (HL2.out.step hb47)
  clear hb7 hb47 HL1 HL2 HGE HO6 HO5 HB6 HB5 HO0 HB0 HLc
  try clear HS4
  have HL1 := HLa
  have HL2 := HLb
  clear HLa HLb
  go_upto_region 5 with fail
  generalize hX : w7.alloc (.cells #[.int .i64 0, .int .i64 0, .int .i64 0, .int .i64 0, .int .i64 0, .int .i64 0, .int .i64 0, .int .u32 0, .int .u32 0, .int .u32 0, .int .u32 0, .int .u32 0, .bool false] 28) = w8 at *
  clear hX
  go_wp2_with fail
  refine (kIs_flt opSGet 0 l7 5 (by omega) (by omega) w8 sa (HE.out.below HS8.out.be)).mono ?_
  rintro r w9 ⟨rfl, hb⟩
  have HS9 := Hid.in (HS8.out.step hb)
  have HLa := Hid.in (HL1.out.step hb)
  have HLb := Hid.in (HL2.out.step hb)
  clear hb HL1 HL2 HS8
  have HL1 := HLa
  have HL2 := HLb
  clear HLa HLb
  have x0 : w9.cell? ⟨w.heap.size, 0, none⟩ = some (.int .i64 k) := blk_cell HS9.out.bA rfl
  have x1 : w9.cell? ⟨w.heap.size, 1, none⟩ = some (.int .i64 c) := blk_cell HS9.out.bA rfl
  have x2 : w9.cell? ⟨w.heap.size, 2, none⟩ = some (.int .i64 l) := blk_cell HS9.out.bA rfl
  have x3 : w9.cell? ⟨w.heap.size, 3, none⟩ = some (.int .i64 t) := blk_cell HS9.out.bA rfl
  have x4 : w9.cell? ⟨w.heap.size, 4, none⟩ = some (.int .i64 o) := blk_cell HS9.out.bA rfl
  have x5 : w9.cell? ⟨w.heap.size, 5, none⟩ = some (.int .i64 e) := blk_cell HS9.out.bA rfl
  have x6 : w9.cell? ⟨w.heap.size, 6, none⟩ = some (.int .i64 w_) := blk_cell HS9.out.bA rfl
  have x7 : w9.cell? ⟨w.heap.size, 7, none⟩ = some (.int .u32 v) := blk_cell HS9.out.bA rfl
  have x8 : w9.cell? ⟨w.heap.size, 8, none⟩ = some (.int .u32 d0) := blk_cell HS9.out.bA rfl
  have x9 : w9.cell? ⟨w.heap.size, 9, none⟩ = some (.int .u32 d1) := blk_cell HS9.out.bA rfl
  have x10 : w9.cell? ⟨w.heap.size, 10, none⟩ = some (.int .u32 d2) := blk_cell HS9.out.bA rfl
  have x11 : w9.cell? ⟨w.heap.size, 11, none⟩ = some (.int .u32 d3) := blk_cell HS9.out.bA rfl
  have x12 : w9.cell? ⟨w.heap.size, 12, none⟩ = some (.bool h) := blk_cell HS9.out.bA rfl
  have y0 : w9.cell? ⟨w.heap.size + 1, 0, none⟩ = some (.int .i64 nk) := blk_cell HS9.out.bB rfl
  have y1 : w9.cell? ⟨w.heap.size + 1, 1, none⟩ = some (.int .i64 nc) := blk_cell HS9.out.bB rfl
  have y2 : w9.cell? ⟨w.heap.size + 1, 2, none⟩ = some (.int .i64 nl) := blk_cell HS9.out.bB rfl
  have y3 : w9.cell? ⟨w.heap.size + 1, 3, none⟩ = some (.int .i64 nt) := blk_cell HS9.out.bB rfl
  have y4 : w9.cell? ⟨w.heap.size + 1, 4, none⟩ = some (.int .i64 no) := blk_cell HS9.out.bB rfl
  have y5 : w9.cell? ⟨w.heap.size + 1, 5, none⟩ = some (.int .i64 ne) := blk_cell HS9.out.bB rfl
  have y6 : w9.cell? ⟨w.heap.size + 1, 6, none⟩ = some (.int .i64 nw) := blk_cell HS9.out.bB rfl
  have y7 : w9.cell? ⟨w.heap.size + 1, 7, none⟩ = some (.int .u32 nv) := blk_cell HS9.out.bB rfl
  have y8 : w9.cell? ⟨w.heap.size + 1, 8, none⟩ = some (.int .u32 nd0) := blk_cell HS9.out.bB rfl
  have y9 : w9.cell? ⟨w.heap.size + 1, 9, none⟩ = some (.int .u32 nd1) := blk_cell HS9.out.bB rfl
  have y10 : w9.cell? ⟨w.heap.size + 1, 10, none⟩ = some (.int .u32 nd2) := blk_cell HS9.out.bB rfl
  have y11 : w9.cell? ⟨w.heap.size + 1, 11, none⟩ = some (.int .u32 nd3) := blk_cell HS9.out.bB rfl
  have y12 : w9.cell? ⟨w.heap.size + 1, 12, none⟩ = some (.bool nh) := blk_cell HS9.out.bB rfl
  have hen := fun w => eq_msgIn' (k, c, l, t, o, e, w_, v, d0, d1, d2, d3, h) (nk, nc, nl, nt, no, ne, nw, nv, nd0, nd1, nd2, nd3, nh) w
  rw [HD.out] at hen
  simp only [mv] at hen
  have hg1 := fun WW hE2 hL2 => sGet_any a1 M1 c1 (encM (k, c, l, t, o, e, w_, v, d0, d1, d2, d3, h)) WW sa hE2 E1.out hL2 (encM_byte _) (by rw [← E1.out]; omega)
  rw [gotM_enc _ H32.out ((rtB_iff _).1 HX.out)] at hg1
  simp only [mv, gErr_zero] at hg1
  have hg2 := fun WW hE2 hL2 => sGet_any a2 M2 c2 (encM (nk, nc, nl, nt, no, ne, nw, nv, nd0, nd1, nd2, nd3, nh)) WW sa hE2 E2.out hL2 (encM_byte _) (by rw [← E2.out]; omega)
  rw [gotM_enc _ G32.out ((rtB_iff _).1 HY.out)] at hg2
  simp only [mv, gErr_zero] at hg2
  have HG1 := Hid.in hg1
  have HG2 := Hid.in hg2
  clear hg1 hg2
  go_wp2_with fail
  refine (HG1.out _ (HE.out.below HS9.out.be) HL1.out).mono ?_
  rintro r w11 ⟨_, rfl, hb, _⟩
  clear x0 x1 x2 x3 x4 x5 x6 x7 x8 x9 x10 x11 x12
  clear y0 y1 y2 y3 y4 y5 y6 y7 y8 y9 y10 y11 y12
  clear hen
  have hb2 := bstep hb (Nat.le_refl _) (below_alloc w11 (.cells #[.int .i64 k, .int .i64 c, .int .i64 l, .int .i64 t, .int .i64 o, .int .i64 e, .int .i64 w_, .int .u32 v, .int .u32 d0, .int .u32 d1, .int .u32 d2, .int .u32 d3, .bool h] 28))
  have HS12 := Hid.in (HS9.out.step hb2)
  have HLb := Hid.in (HL2.out.step hb2)
  have HX12 : Hid ((w11.alloc (.cells #[.int .i64 k, .int .i64 c, .int .i64 l, .int .i64 t, .int .i64 o, .int .i64 e, .int .i64 w_, .int .u32 v, .int .u32 d0, .int .u32 d1, .int .u32 d2, .int .u32 d3, .bool h] 28)).heap[w11.heap.size]? = some (.cells #[.int .i64 k, .int .i64 c, .int .i64 l, .int .i64 t, .int .i64 o, .int .i64 e, .int .i64 w_, .int .u32 v, .int .u32 d0, .int .u32 d1, .int .u32 d2, .int .u32 d3, .bool h] 28 (0, 0))) := Hid.in (heap_alloc_new _ _)
  clear hb hb2 HL1 HL2 HG1 HS9
  have HL2 := HLb
  clear HLb
  go_upto_region 8 with fail
  generalize hX : w11.alloc (.cells #[.int .i64 k, .int .i64 c, .int .i64 l, .int .i64 t, .int .i64 o, .int .i64 e, .int .i64 w_, .int .u32 v, .int .u32 d0, .int .u32 d1, .int .u32 d2, .int .u32 d3, .bool h] 28) = w12 at *
  clear hX
  go_wp2_with fail
  refine (HG2.out _ (HE.out.below HS12.out.be) HL2.out).mono ?_
  rintro r w13 ⟨_, rfl, hb, _⟩
  have hb2 := bstep hb (Nat.le_refl _) (below_alloc w13 (.cells #[.int .i64 nk, .int .i64 nc, .int .i64 nl, .int .i64 nt, .int .i64 no, .int .i64 ne, .int .i64 nw, .int .u32 nv, .int .u32 nd0, .int .u32 nd1, .int .u32 nd2, .int .u32 nd3, .bool nh] 28))
  have HS14 := Hid.in (HS12.out.step hb2)
  have HX14 := Hid.in (blk_step HX12.out hb2)
  have HY14 : Hid ((w13.alloc (.cells #[.int .i64 nk, .int .i64 nc, .int .i64 nl, .int .i64 nt, .int .i64 no, .int .i64 ne, .int .i64 nw, .int .u32 nv, .int .u32 nd0, .int .u32 nd1, .int .u32 nd2, .int .u32 nd3, .bool nh] 28)).heap[w13.heap.size]? = some (.cells #[.int .i64 nk, .int .i64 nc, .int .i64 nl, .int .i64 nt, .int .i64 no, .int .i64 ne, .int .i64 nw, .int .u32 nv, .int .u32 nd0, .int .u32 nd1, .int .u32 nd2, .int .u32 nd3, .bool nh] 28 (0, 0))) := Hid.in (heap_alloc_new _ _)
  clear hb hb2 HL2 HG2 HS12 HX12
  go_upto_region 9 with fail
  generalize hX : w13.alloc (.cells #[.int .i64 nk, .int .i64 nc, .int .i64 nl, .int .i64 nt, .int .i64 no, .int .i64 ne, .int .i64 nw, .int .u32 nv, .int .u32 nd0, .int .u32 nd1, .int .u32 nd2, .int .u32 nd3, .bool nh] 28) = w14 at *
  clear hX
  have x0 : w14.cell? ⟨w.heap.size, 0, none⟩ = some (.int .i64 k) := blk_cell HS14.out.bA rfl
  have x1 : w14.cell? ⟨w.heap.size, 1, none⟩ = some (.int .i64 c) := blk_cell HS14.out.bA rfl
  have x2 : w14.cell? ⟨w.heap.size, 2, none⟩ = some (.int .i64 l) := blk_cell HS14.out.bA rfl
  have x3 : w14.cell? ⟨w.heap.size, 3, none⟩ = some (.int .i64 t) := blk_cell HS14.out.bA rfl
  have x4 : w14.cell? ⟨w.heap.size, 4, none⟩ = some (.int .i64 o) := blk_cell HS14.out.bA rfl
  have x5 : w14.cell? ⟨w.heap.size, 5, none⟩ = some (.int .i64 e) := blk_cell HS14.out.bA rfl
  have x6 : w14.cell? ⟨w.heap.size, 6, none⟩ = some (.int .i64 w_) := blk_cell HS14.out.bA rfl
  have x7 : w14.cell? ⟨w.heap.size, 7, none⟩ = some (.int .u32 v) := blk_cell HS14.out.bA rfl
  have x8 : w14.cell? ⟨w.heap.size, 8, none⟩ = some (.int .u32 d0) := blk_cell HS14.out.bA rfl
  have x9 : w14.cell? ⟨w.heap.size, 9, none⟩ = some (.int .u32 d1) := blk_cell HS14.out.bA rfl
  have x10 : w14.cell? ⟨w.heap.size, 10, none⟩ = some (.int .u32 d2) := blk_cell HS14.out.bA rfl
  have x11 : w14.cell? ⟨w.heap.size, 11, none⟩ = some (.int .u32 d3) := blk_cell HS14.out.bA rfl
  have x12 : w14.cell? ⟨w.heap.size, 12, none⟩ = some (.bool h) := blk_cell HS14.out.bA rfl
  have y0 : w14.cell? ⟨w.heap.size + 1, 0, none⟩ = some (.int .i64 nk) := blk_cell HS14.out.bB rfl
  have y1 : w14.cell? ⟨w.heap.size + 1, 1, none⟩ = some (.int .i64 nc) := blk_cell HS14.out.bB rfl
  have y2 : w14.cell? ⟨w.heap.size + 1, 2, none⟩ = some (.int .i64 nl) := blk_cell HS14.out.bB rfl
  have y3 : w14.cell? ⟨w.heap.size + 1, 3, none⟩ = some (.int .i64 nt) := blk_cell HS14.out.bB rfl
  have y4 : w14.cell? ⟨w.heap.size + 1, 4, none⟩ = some (.int .i64 no) := blk_cell HS14.out.bB rfl
  have y5 : w14.cell? ⟨w.heap.size + 1, 5, none⟩ = some (.int .i64 ne) := blk_cell HS14.out.bB rfl
  have y6 : w14.cell? ⟨w.heap.size + 1, 6, none⟩ = some (.int .i64 nw) := blk_cell HS14.out.bB rfl
  have y7 : w14.cell? ⟨w.heap.size + 1, 7, none⟩ = some (.int .u32 nv) := blk_cell HS14.out.bB rfl
  have y8 : w14.cell? ⟨w.heap.size + 1, 8, none⟩ = some (.int .u32 nd0) := blk_cell HS14.out.bB rfl
  have y9 : w14.cell? ⟨w.heap.size + 1, 9, none⟩ = some (.int .u32 nd1) := blk_cell HS14.out.bB rfl
  have y10 : w14.cell? ⟨w.heap.size + 1, 10, none⟩ = some (.int .u32 nd2) := blk_cell HS14.out.bB rfl
  have y11 : w14.cell? ⟨w.heap.size + 1, 11, none⟩ = some (.int .u32 nd3) := blk_cell HS14.out.bB rfl
  have y12 : w14.cell? ⟨w.heap.size + 1, 12, none⟩ = some (.bool nh) := blk_cell HS14.out.bB rfl
  have u0 : w14.cell? ⟨w11.heap.size, 0, none⟩ = some (.int .i64 k) := blk_cell HX14.out rfl
  have u1 : w14.cell? ⟨w11.heap.size, 1, none⟩ = some (.int .i64 c) := blk_cell HX14.out rfl
  have u2 : w14.cell? ⟨w11.heap.size, 2, none⟩ = some (.int .i64 l) := blk_cell HX14.out rfl
  have u3 : w14.cell? ⟨w11.heap.size, 3, none⟩ = some (.int .i64 t) := blk_cell HX14.out rfl
  have u4 : w14.cell? ⟨w11.heap.size, 4, none⟩ = some (.int .i64 o) := blk_cell HX14.out rfl
  have u5 : w14.cell? ⟨w11.heap.size, 5, none⟩ = some (.int .i64 e) := blk_cell HX14.out rfl
  have u6 : w14.cell? ⟨w11.heap.size, 6, none⟩ = some (.int .i64 w_) := blk_cell HX14.out rfl
  have u7 : w14.cell? ⟨w11.heap.size, 7, none⟩ = some (.int .u32 v) := blk_cell HX14.out rfl
  have u8 : w14.cell? ⟨w11.heap.size, 8, none⟩ = some (.int .u32 d0) := blk_cell HX14.out rfl
  have u9 : w14.cell? ⟨w11.heap.size, 9, none⟩ = some (.int .u32 d1) := blk_cell HX14.out rfl
  have u10 : w14.cell? ⟨w11.heap.size, 10, none⟩ = some (.int .u32 d2) := blk_cell HX14.out rfl
  have u11 : w14.cell? ⟨w11.heap.size, 11, none⟩ = some (.int .u32 d3) := blk_cell HX14.out rfl
  have u12 : w14.cell? ⟨w11.heap.size, 12, none⟩ = some (.bool h) := blk_cell HX14.out rfl
  have z0 : w14.cell? ⟨w13.heap.size, 0, none⟩ = some (.int .i64 nk) := blk_cell HY14.out rfl
  have z1 : w14.cell? ⟨w13.heap.size, 1, none⟩ = some (.int .i64 nc) := blk_cell HY14.out rfl
  have z2 : w14.cell? ⟨w13.heap.size, 2, none⟩ = some (.int .i64 nl) := blk_cell HY14.out rfl
  have z3 : w14.cell? ⟨w13.heap.size, 3, none⟩ = some (.int .i64 nt) := blk_cell HY14.out rfl
  have z4 : w14.cell? ⟨w13.heap.size, 4, none⟩ = some (.int .i64 no) := blk_cell HY14.out rfl
  have z5 : w14.cell? ⟨w13.heap.size, 5, none⟩ = some (.int .i64 ne) := blk_cell HY14.out rfl
  have z6 : w14.cell? ⟨w13.heap.size, 6, none⟩ = some (.int .i64 nw) := blk_cell HY14.out rfl
  have z7 : w14.cell? ⟨w13.heap.size, 7, none⟩ = some (.int .u32 nv) := blk_cell HY14.out rfl
  have z8 : w14.cell? ⟨w13.heap.size, 8, none⟩ = some (.int .u32 nd0) := blk_cell HY14.out rfl
  have z9 : w14.cell? ⟨w13.heap.size, 9, none⟩ = some (.int .u32 nd1) := blk_cell HY14.out rfl
  have z10 : w14.cell? ⟨w13.heap.size, 10, none⟩ = some (.int .u32 nd2) := blk_cell HY14.out rfl
  have z11 : w14.cell? ⟨w13.heap.size, 11, none⟩ = some (.int .u32 nd3) := blk_cell HY14.out rfl
  have z12 : w14.cell? ⟨w13.heap.size, 12, none⟩ = some (.bool nh) := blk_cell HY14.out rfl
  have he1 := fun w => eq_msgIn' (k, c, l, t, o, e, w_, v, d0, d1, d2, d3, h) (k, c, l, t, o, e, w_, v, d0, d1, d2, d3, h) w
  rw [eqB_self] at he1
  simp only [mv] at he1
  have he2 := fun w => eq_msgIn' (nk, nc, nl, nt, no, ne, nw, nv, nd0, nd1, nd2, nd3, nh) (nk, nc, nl, nt, no, ne, nw, nv, nd0, nd1, nd2, nd3, nh) w
  rw [eqB_self] at he2
  simp only [mv] at he2
  go_wp2_with fail
  refine (msgRuns_any _ sa (HE.out.below HS14.out.be)).mono ?_
  rintro r w15 ⟨rfl, hb⟩
  have HS15 := Hid.in (HS14.out.step hb)
  clear hb
  go_wp2
  go_ret
  exact ⟨rfl, HS15.out.be⟩

set_option maxHeartbeats 6400000 in
set_option maxRecDepth 20000 in
theorem msgApart_long (w : World) (sa : Nat → Addr) (hE : Env10 w sa) (k c l t o e w_ v d0 d1 d2 d3 : Int) (h : Bool) (nk nc nl nt no ne nw nv nd0 nd1 nd2 nd3 : Int) (nh : Bool) (h32 : M32 (k, c, l, t, o, e, w_, v, d0, d1, d2, d3, h)) (h64 : M64 (k, c, l, t, o, e, w_, v, d0, d1, d2, d3, h)) (g32 : M32 (nk, nc, nl, nt, no, ne, nw, nv, nd0, nd1, nd2, nd3, nh)) (g64 : M64 (nk, nc, nl, nt, no, ne, nw, nv, nd0, nd1, nd2, nd3, nh)) (hx : rtB (k, c, l, t, o, e, w_, v, d0, d1, d2, d3, h) = true) (hy : rtB (nk, nc, nl, nt, no, ne, nw, nv, nd0, nd1, nd2, nd3, nh) = true) (hd : eqB (k, c, l, t, o, e, w_, v, d0, d1, d2, d3, h) (nk, nc, nl, nt, no, ne, nw, nv, nd0, nd1, nd2, nd3, nh) = false) (hl : ¬ (encM (k, c, l, t, o, e, w_, v, d0, d1, d2, d3, h)).length ≤ (encM (nk, nc, nl, nt, no, ne, nw, nv, nd0, nd1, nd2, nd3, nh)).length) :
    Calls Tryd.prog 8 #[.agg #[.int .i64 k, .int .i64 c, .int .i64 l, .int .i64 t, .int .i64 o, .int .i64 e, .int .i64 w_, .int .u32 v, .int .u32 d0, .int .u32 d1, .int .u32 d2, .int .u32 d3, .bool h], .agg #[.int .i64 nk, .int .i64 nc, .int .i64 nl, .int .i64 nt, .int .i64 no, .int .i64 ne, .int .i64 nw, .int .u32 nv, .int .u32 nd0, .int .u32 nd1, .int .u32 nd2, .int .u32 nd3, .bool nh]] w fun r w' => r = .returned (.bool true) ∧ Below w.heap.size w w' := by
  have HX := Hid.in hx
  have HY := Hid.in hy
  have HD := Hid.in hd
  have HLE := Hid.in hl
  clear hl
  clear hx hy hd
  have HE := Hid.in hE
  have H32 := Hid.in h32
  have H64 := Hid.in h64
  have G32 := Hid.in g32
  have G64 := Hid.in g64
  clear hE h32 h64 g32 g64
  have HS0 : Hid (SM2 w #[.int .i64 k, .int .i64 c, .int .i64 l, .int .i64 t, .int .i64 o, .int .i64 e, .int .i64 w_, .int .u32 v, .int .u32 d0, .int .u32 d1, .int .u32 d2, .int .u32 d3, .bool h] #[.int .i64 nk, .int .i64 nc, .int .i64 nl, .int .i64 nt, .int .i64 no, .int .i64 ne, .int .i64 nw, .int .u32 nv, .int .u32 nd0, .int .u32 nd1, .int .u32 nd2, .int .u32 nd3, .bool nh] ((w.alloc (.cells #[.int .i64 k, .int .i64 c, .int .i64 l, .int .i64 t, .int .i64 o, .int .i64 e, .int .i64 w_, .int .u32 v, .int .u32 d0, .int .u32 d1, .int .u32 d2, .int .u32 d3, .bool h] 28)).alloc (.cells #[.int .i64 nk, .int .i64 nc, .int .i64 nl, .int .i64 nt, .int .i64 no, .int .i64 ne, .int .i64 nw, .int .u32 nv, .int .u32 nd0, .int .u32 nd1, .int .u32 nd2, .int .u32 nd3, .bool nh] 28))) := Hid.in (SM2.start _ _ _)
  go_enter Tryd.func8, Tryd.ntmps8
  go_upto_region 1 with fail
  generalize hX : ((w.alloc (.cells #[.int .i64 k, .int .i64 c, .int .i64 l, .int .i64 t, .int .i64 o, .int .i64 e, .int .i64 w_, .int .u32 v, .int .u32 d0, .int .u32 d1, .int .u32 d2, .int .u32 d3, .bool h] 28)).alloc (.cells #[.int .i64 nk, .int .i64 nc, .int .i64 nl, .int .i64 nt, .int .i64 no, .int .i64 ne, .int .i64 nw, .int .u32 nv, .int .u32 nd0, .int .u32 nd1, .int .u32 nd2, .int .u32 nd3, .bool nh] 28)) = W0 at *
  clear hX
  have sd : ∀ W, SM2 w #[.int .i64 k, .int .i64 c, .int .i64 l, .int .i64 t, .int .i64 o, .int .i64 e, .int .i64 w_, .int .u32 v, .int .u32 d0, .int .u32 d1, .int .u32 d2, .int .u32 d3, .bool h] #[.int .i64 nk, .int .i64 nc, .int .i64 nl, .int .i64 nt, .int .i64 no, .int .i64 ne, .int .i64 nw, .int .u32 nv, .int .u32 nd0, .int .u32 nd1, .int .u32 nd2, .int .u32 nd3, .bool nh] W → SM2 w #[.int .i64 k, .int .i64 c, .int .i64 l, .int .i64 t, .int .i64 o, .int .i64 e, .int .i64 w_, .int .u32 v, .int .u32 d0, .int .u32 d1, .int .u32 d2, .int .u32 d3, .bool h] #[.int .i64 nk, .int .i64 nc, .int .i64 nl, .int .i64 nt, .int .i64 no, .int .i64 ne, .int .i64 nw, .int .u32 nv, .int .u32 nd0, .int .u32 nd1, .int .u32 nd2, .int .u32 nd3, .bool nh] W.drew := fun W h => h.step (Below.refl _ _).drew
  have sl : ∀ (W : World) (ob : Obj), SM2 w #[.int .i64 k, .int .i64 c, .int .i64 l, .int .i64 t, .int .i64 o, .int .i64 e, .int .i64 w_, .int .u32 v, .int .u32 d0, .int .u32 d1, .int .u32 d2, .int .u32 d3, .bool h] #[.int .i64 nk, .int .i64 nc, .int .i64 nl, .int .i64 nt, .int .i64 no, .int .i64 ne, .int .i64 nw, .int .u32 nv, .int .u32 nd0, .int .u32 nd1, .int .u32 nd2, .int .u32 nd3, .bool nh] W → SM2 w #[.int .i64 k, .int .i64 c, .int .i64 l, .int .i64 t, .int .i64 o, .int .i64 e, .int .i64 w_, .int .u32 v, .int .u32 d0, .int .u32 d1, .int .u32 d2, .int .u32 d3, .bool h] #[.int .i64 nk, .int .i64 nc, .int .i64 nl, .int .i64 nt, .int .i64 no, .int .i64 ne, .int .i64 nw, .int .u32 nv, .int .u32 nd0, .int .u32 nd1, .int .u32 nd2, .int .u32 nd3, .bool nh] (W.alloc ob) := fun W ob h => h.step (below_alloc _ _)
  have p0 : ∀ W, SM2 w #[.int .i64 k, .int .i64 c, .int .i64 l, .int .i64 t, .int .i64 o, .int .i64 e, .int .i64 w_, .int .u32 v, .int .u32 d0, .int .u32 d1, .int .u32 d2, .int .u32 d3, .bool h] #[.int .i64 nk, .int .i64 nc, .int .i64 nl, .int .i64 nt, .int .i64 no, .int .i64 ne, .int .i64 nw, .int .u32 nv, .int .u32 nd0, .int .u32 nd1, .int .u32 nd2, .int .u32 nd3, .bool nh] W → W.cell? ⟨w.heap.size, 0, none⟩ = some (.int .i64 k) := fun W h => blk_cell h.bA rfl
  have p1 : ∀ W, SM2 w #[.int .i64 k, .int .i64 c, .int .i64 l, .int .i64 t, .int .i64 o, .int .i64 e, .int .i64 w_, .int .u32 v, .int .u32 d0, .int .u32 d1, .int .u32 d2, .int .u32 d3, .bool h] #[.int .i64 nk, .int .i64 nc, .int .i64 nl, .int .i64 nt, .int .i64 no, .int .i64 ne, .int .i64 nw, .int .u32 nv, .int .u32 nd0, .int .u32 nd1, .int .u32 nd2, .int .u32 nd3, .bool nh] W → W.cell? ⟨w.heap.size, 1, none⟩ = some (.int .i64 c) := fun W h => blk_cell h.bA rfl
  have p2 : ∀ W, SM2 w #[.int .i64 k, .int .i64 c, .int .i64 l, .int .i64 t, .int .i64 o, .int .i64 e, .int .i64 w_, .int .u32 v, .int .u32 d0, .int .u32 d1, .int .u32 d2, .int .u32 d3, .bool h] #[.int .i64 nk, .int .i64 nc, .int .i64 nl, .int .i64 nt, .int .i64 no, .int .i64 ne, .int .i64 nw, .int .u32 nv, .int .u32 nd0, .int .u32 nd1, .int .u32 nd2, .int .u32 nd3, .bool nh] W → W.cell? ⟨w.heap.size, 2, none⟩ = some (.int .i64 l) := fun W h => blk_cell h.bA rfl
  have p3 : ∀ W, SM2 w #[.int .i64 k, .int .i64 c, .int .i64 l, .int .i64 t, .int .i64 o, .int .i64 e, .int .i64 w_, .int .u32 v, .int .u32 d0, .int .u32 d1, .int .u32 d2, .int .u32 d3, .bool h] #[.int .i64 nk, .int .i64 nc, .int .i64 nl, .int .i64 nt, .int .i64 no, .int .i64 ne, .int .i64 nw, .int .u32 nv, .int .u32 nd0, .int .u32 nd1, .int .u32 nd2, .int .u32 nd3, .bool nh] W → W.cell? ⟨w.heap.size, 3, none⟩ = some (.int .i64 t) := fun W h => blk_cell h.bA rfl
  have p4 : ∀ W, SM2 w #[.int .i64 k, .int .i64 c, .int .i64 l, .int .i64 t, .int .i64 o, .int .i64 e, .int .i64 w_, .int .u32 v, .int .u32 d0, .int .u32 d1, .int .u32 d2, .int .u32 d3, .bool h] #[.int .i64 nk, .int .i64 nc, .int .i64 nl, .int .i64 nt, .int .i64 no, .int .i64 ne, .int .i64 nw, .int .u32 nv, .int .u32 nd0, .int .u32 nd1, .int .u32 nd2, .int .u32 nd3, .bool nh] W → W.cell? ⟨w.heap.size, 4, none⟩ = some (.int .i64 o) := fun W h => blk_cell h.bA rfl
  have p5 : ∀ W, SM2 w #[.int .i64 k, .int .i64 c, .int .i64 l, .int .i64 t, .int .i64 o, .int .i64 e, .int .i64 w_, .int .u32 v, .int .u32 d0, .int .u32 d1, .int .u32 d2, .int .u32 d3, .bool h] #[.int .i64 nk, .int .i64 nc, .int .i64 nl, .int .i64 nt, .int .i64 no, .int .i64 ne, .int .i64 nw, .int .u32 nv, .int .u32 nd0, .int .u32 nd1, .int .u32 nd2, .int .u32 nd3, .bool nh] W → W.cell? ⟨w.heap.size, 5, none⟩ = some (.int .i64 e) := fun W h => blk_cell h.bA rfl
  have p6 : ∀ W, SM2 w #[.int .i64 k, .int .i64 c, .int .i64 l, .int .i64 t, .int .i64 o, .int .i64 e, .int .i64 w_, .int .u32 v, .int .u32 d0, .int .u32 d1, .int .u32 d2, .int .u32 d3, .bool h] #[.int .i64 nk, .int .i64 nc, .int .i64 nl, .int .i64 nt, .int .i64 no, .int .i64 ne, .int .i64 nw, .int .u32 nv, .int .u32 nd0, .int .u32 nd1, .int .u32 nd2, .int .u32 nd3, .bool nh] W → W.cell? ⟨w.heap.size, 6, none⟩ = some (.int .i64 w_) := fun W h => blk_cell h.bA rfl
  have p7 : ∀ W, SM2 w #[.int .i64 k, .int .i64 c, .int .i64 l, .int .i64 t, .int .i64 o, .int .i64 e, .int .i64 w_, .int .u32 v, .int .u32 d0, .int .u32 d1, .int .u32 d2, .int .u32 d3, .bool h] #[.int .i64 nk, .int .i64 nc, .int .i64 nl, .int .i64 nt, .int .i64 no, .int .i64 ne, .int .i64 nw, .int .u32 nv, .int .u32 nd0, .int .u32 nd1, .int .u32 nd2, .int .u32 nd3, .bool nh] W → W.cell? ⟨w.heap.size, 7, none⟩ = some (.int .u32 v) := fun W h => blk_cell h.bA rfl
  have p8 : ∀ W, SM2 w #[.int .i64 k, .int .i64 c, .int .i64 l, .int .i64 t, .int .i64 o, .int .i64 e, .int .i64 w_, .int .u32 v, .int .u32 d0, .int .u32 d1, .int .u32 d2, .int .u32 d3, .bool h] #[.int .i64 nk, .int .i64 nc, .int .i64 nl, .int .i64 nt, .int .i64 no, .int .i64 ne, .int .i64 nw, .int .u32 nv, .int .u32 nd0, .int .u32 nd1, .int .u32 nd2, .int .u32 nd3, .bool nh] W → W.cell? ⟨w.heap.size, 8, none⟩ = some (.int .u32 d0) := fun W h => blk_cell h.bA rfl
  have p9 : ∀ W, SM2 w #[.int .i64 k, .int .i64 c, .int .i64 l, .int .i64 t, .int .i64 o, .int .i64 e, .int .i64 w_, .int .u32 v, .int .u32 d0, .int .u32 d1, .int .u32 d2, .int .u32 d3, .bool h] #[.int .i64 nk, .int .i64 nc, .int .i64 nl, .int .i64 nt, .int .i64 no, .int .i64 ne, .int .i64 nw, .int .u32 nv, .int .u32 nd0, .int .u32 nd1, .int .u32 nd2, .int .u32 nd3, .bool nh] W → W.cell? ⟨w.heap.size, 9, none⟩ = some (.int .u32 d1) := fun W h => blk_cell h.bA rfl
  have p10 : ∀ W, SM2 w #[.int .i64 k, .int .i64 c, .int .i64 l, .int .i64 t, .int .i64 o, .int .i64 e, .int .i64 w_, .int .u32 v, .int .u32 d0, .int .u32 d1, .int .u32 d2, .int .u32 d3, .bool h] #[.int .i64 nk, .int .i64 nc, .int .i64 nl, .int .i64 nt, .int .i64 no, .int .i64 ne, .int .i64 nw, .int .u32 nv, .int .u32 nd0, .int .u32 nd1, .int .u32 nd2, .int .u32 nd3, .bool nh] W → W.cell? ⟨w.heap.size, 10, none⟩ = some (.int .u32 d2) := fun W h => blk_cell h.bA rfl
  have p11 : ∀ W, SM2 w #[.int .i64 k, .int .i64 c, .int .i64 l, .int .i64 t, .int .i64 o, .int .i64 e, .int .i64 w_, .int .u32 v, .int .u32 d0, .int .u32 d1, .int .u32 d2, .int .u32 d3, .bool h] #[.int .i64 nk, .int .i64 nc, .int .i64 nl, .int .i64 nt, .int .i64 no, .int .i64 ne, .int .i64 nw, .int .u32 nv, .int .u32 nd0, .int .u32 nd1, .int .u32 nd2, .int .u32 nd3, .bool nh] W → W.cell? ⟨w.heap.size, 11, none⟩ = some (.int .u32 d3) := fun W h => blk_cell h.bA rfl
  have p12 : ∀ W, SM2 w #[.int .i64 k, .int .i64 c, .int .i64 l, .int .i64 t, .int .i64 o, .int .i64 e, .int .i64 w_, .int .u32 v, .int .u32 d0, .int .u32 d1, .int .u32 d2, .int .u32 d3, .bool h] #[.int .i64 nk, .int .i64 nc, .int .i64 nl, .int .i64 nt, .int .i64 no, .int .i64 ne, .int .i64 nw, .int .u32 nv, .int .u32 nd0, .int .u32 nd1, .int .u32 nd2, .int .u32 nd3, .bool nh] W → W.cell? ⟨w.heap.size, 12, none⟩ = some (.bool h) := fun W h => blk_cell h.bA rfl
  have q0 : ∀ W, SM2 w #[.int .i64 k, .int .i64 c, .int .i64 l, .int .i64 t, .int .i64 o, .int .i64 e, .int .i64 w_, .int .u32 v, .int .u32 d0, .int .u32 d1, .int .u32 d2, .int .u32 d3, .bool h] #[.int .i64 nk, .int .i64 nc, .int .i64 nl, .int .i64 nt, .int .i64 no, .int .i64 ne, .int .i64 nw, .int .u32 nv, .int .u32 nd0, .int .u32 nd1, .int .u32 nd2, .int .u32 nd3, .bool nh] W → W.cell? ⟨w.heap.size + 1, 0, none⟩ = some (.int .i64 nk) := fun W h => blk_cell h.bB rfl
  have q1 : ∀ W, SM2 w #[.int .i64 k, .int .i64 c, .int .i64 l, .int .i64 t, .int .i64 o, .int .i64 e, .int .i64 w_, .int .u32 v, .int .u32 d0, .int .u32 d1, .int .u32 d2, .int .u32 d3, .bool h] #[.int .i64 nk, .int .i64 nc, .int .i64 nl, .int .i64 nt, .int .i64 no, .int .i64 ne, .int .i64 nw, .int .u32 nv, .int .u32 nd0, .int .u32 nd1, .int .u32 nd2, .int .u32 nd3, .bool nh] W → W.cell? ⟨w.heap.size + 1, 1, none⟩ = some (.int .i64 nc) := fun W h => blk_cell h.bB rfl
  have q2 : ∀ W, SM2 w #[.int .i64 k, .int .i64 c, .int .i64 l, .int .i64 t, .int .i64 o, .int .i64 e, .int .i64 w_, .int .u32 v, .int .u32 d0, .int .u32 d1, .int .u32 d2, .int .u32 d3, .bool h] #[.int .i64 nk, .int .i64 nc, .int .i64 nl, .int .i64 nt, .int .i64 no, .int .i64 ne, .int .i64 nw, .int .u32 nv, .int .u32 nd0, .int .u32 nd1, .int .u32 nd2, .int .u32 nd3, .bool nh] W → W.cell? ⟨w.heap.size + 1, 2, none⟩ = some (.int .i64 nl) := fun W h => blk_cell h.bB rfl
  have q3 : ∀ W, SM2 w #[.int .i64 k, .int .i64 c, .int .i64 l, .int .i64 t, .int .i64 o, .int .i64 e, .int .i64 w_, .int .u32 v, .int .u32 d0, .int .u32 d1, .int .u32 d2, .int .u32 d3, .bool h] #[.int .i64 nk, .int .i64 nc, .int .i64 nl, .int .i64 nt, .int .i64 no, .int .i64 ne, .int .i64 nw, .int .u32 nv, .int .u32 nd0, .int .u32 nd1, .int .u32 nd2, .int .u32 nd3, .bool nh] W → W.cell? ⟨w.heap.size + 1, 3, none⟩ = some (.int .i64 nt) := fun W h => blk_cell h.bB rfl
  have q4 : ∀ W, SM2 w #[.int .i64 k, .int .i64 c, .int .i64 l, .int .i64 t, .int .i64 o, .int .i64 e, .int .i64 w_, .int .u32 v, .int .u32 d0, .int .u32 d1, .int .u32 d2, .int .u32 d3, .bool h] #[.int .i64 nk, .int .i64 nc, .int .i64 nl, .int .i64 nt, .int .i64 no, .int .i64 ne, .int .i64 nw, .int .u32 nv, .int .u32 nd0, .int .u32 nd1, .int .u32 nd2, .int .u32 nd3, .bool nh] W → W.cell? ⟨w.heap.size + 1, 4, none⟩ = some (.int .i64 no) := fun W h => blk_cell h.bB rfl
  have q5 : ∀ W, SM2 w #[.int .i64 k, .int .i64 c, .int .i64 l, .int .i64 t, .int .i64 o, .int .i64 e, .int .i64 w_, .int .u32 v, .int .u32 d0, .int .u32 d1, .int .u32 d2, .int .u32 d3, .bool h] #[.int .i64 nk, .int .i64 nc, .int .i64 nl, .int .i64 nt, .int .i64 no, .int .i64 ne, .int .i64 nw, .int .u32 nv, .int .u32 nd0, .int .u32 nd1, .int .u32 nd2, .int .u32 nd3, .bool nh] W → W.cell? ⟨w.heap.size + 1, 5, none⟩ = some (.int .i64 ne) := fun W h => blk_cell h.bB rfl
  have q6 : ∀ W, SM2 w #[.int .i64 k, .int .i64 c, .int .i64 l, .int .i64 t, .int .i64 o, .int .i64 e, .int .i64 w_, .int .u32 v, .int .u32 d0, .int .u32 d1, .int .u32 d2, .int .u32 d3, .bool h] #[.int .i64 nk, .int .i64 nc, .int .i64 nl, .int .i64 nt, .int .i64 no, .int .i64 ne, .int .i64 nw, .int .u32 nv, .int .u32 nd0, .int .u32 nd1, .int .u32 nd2, .int .u32 nd3, .bool nh] W → W.cell? ⟨w.heap.size + 1, 6, none⟩ = some (.int .i64 nw) := fun W h => blk_cell h.bB rfl
  have q7 : ∀ W, SM2 w #[.int .i64 k, .int .i64 c, .int .i64 l, .int .i64 t, .int .i64 o, .int .i64 e, .int .i64 w_, .int .u32 v, .int .u32 d0, .int .u32 d1, .int .u32 d2, .int .u32 d3, .bool h] #[.int .i64 nk, .int .i64 nc, .int .i64 nl, .int .i64 nt, .int .i64 no, .int .i64 ne, .int .i64 nw, .int .u32 nv, .int .u32 nd0, .int .u32 nd1, .int .u32 nd2, .int .u32 nd3, .bool nh] W → W.cell? ⟨w.heap.size + 1, 7, none⟩ = some (.int .u32 nv) := fun W h => blk_cell h.bB rfl
  have q8 : ∀ W, SM2 w #[.int .i64 k, .int .i64 c, .int .i64 l, .int .i64 t, .int .i64 o, .int .i64 e, .int .i64 w_, .int .u32 v, .int .u32 d0, .int .u32 d1, .int .u32 d2, .int .u32 d3, .bool h] #[.int .i64 nk, .int .i64 nc, .int .i64 nl, .int .i64 nt, .int .i64 no, .int .i64 ne, .int .i64 nw, .int .u32 nv, .int .u32 nd0, .int .u32 nd1, .int .u32 nd2, .int .u32 nd3, .bool nh] W → W.cell? ⟨w.heap.size + 1, 8, none⟩ = some (.int .u32 nd0) := fun W h => blk_cell h.bB rfl
  have q9 : ∀ W, SM2 w #[.int .i64 k, .int .i64 c, .int .i64 l, .int .i64 t, .int .i64 o, .int .i64 e, .int .i64 w_, .int .u32 v, .int .u32 d0, .int .u32 d1, .int .u32 d2, .int .u32 d3, .bool h] #[.int .i64 nk, .int .i64 nc, .int .i64 nl, .int .i64 nt, .int .i64 no, .int .i64 ne, .int .i64 nw, .int .u32 nv, .int .u32 nd0, .int .u32 nd1, .int .u32 nd2, .int .u32 nd3, .bool nh] W → W.cell? ⟨w.heap.size + 1, 9, none⟩ = some (.int .u32 nd1) := fun W h => blk_cell h.bB rfl
  have q10 : ∀ W, SM2 w #[.int .i64 k, .int .i64 c, .int .i64 l, .int .i64 t, .int .i64 o, .int .i64 e, .int .i64 w_, .int .u32 v, .int .u32 d0, .int .u32 d1, .int .u32 d2, .int .u32 d3, .bool h] #[.int .i64 nk, .int .i64 nc, .int .i64 nl, .int .i64 nt, .int .i64 no, .int .i64 ne, .int .i64 nw, .int .u32 nv, .int .u32 nd0, .int .u32 nd1, .int .u32 nd2, .int .u32 nd3, .bool nh] W → W.cell? ⟨w.heap.size + 1, 10, none⟩ = some (.int .u32 nd2) := fun W h => blk_cell h.bB rfl
  have q11 : ∀ W, SM2 w #[.int .i64 k, .int .i64 c, .int .i64 l, .int .i64 t, .int .i64 o, .int .i64 e, .int .i64 w_, .int .u32 v, .int .u32 d0, .int .u32 d1, .int .u32 d2, .int .u32 d3, .bool h] #[.int .i64 nk, .int .i64 nc, .int .i64 nl, .int .i64 nt, .int .i64 no, .int .i64 ne, .int .i64 nw, .int .u32 nv, .int .u32 nd0, .int .u32 nd1, .int .u32 nd2, .int .u32 nd3, .bool nh] W → W.cell? ⟨w.heap.size + 1, 11, none⟩ = some (.int .u32 nd3) := fun W h => blk_cell h.bB rfl
  have q12 : ∀ W, SM2 w #[.int .i64 k, .int .i64 c, .int .i64 l, .int .i64 t, .int .i64 o, .int .i64 e, .int .i64 w_, .int .u32 v, .int .u32 d0, .int .u32 d1, .int .u32 d2, .int .u32 d3, .bool h] #[.int .i64 nk, .int .i64 nc, .int .i64 nl, .int .i64 nt, .int .i64 no, .int .i64 ne, .int .i64 nw, .int .u32 nv, .int .u32 nd0, .int .u32 nd1, .int .u32 nd2, .int .u32 nd3, .bool nh] W → W.cell? ⟨w.heap.size + 1, 12, none⟩ = some (.bool nh) := fun W h => blk_cell h.bB rfl
  have hS := HS0.out
  have hp := fun W => sPut_any (k, c, l, t, o, e, w_, v, d0, d1, d2, d3, h) W H32.out H64.out
  have hq := fun W => sPut_any (nk, nc, nl, nt, no, ne, nw, nv, nd0, nd1, nd2, nd3, nh) W G32.out G64.out
  change ∀ W, Calls _ _ _ _ (fun r w' => ∃ ao N cap, r = .returned (.slice ao N cap) ∧ N = (putB (k, c, l, t, o, e, w_, v, d0, d1, d2, d3, h)).length ∧ Lie w' ao cap (putB (k, c, l, t, o, e, w_, v, d0, d1, d2, d3, h)) ∧ Below W.heap.size W w') at hp
  change ∀ W, Calls _ _ _ _ (fun r w' => ∃ ao N cap, r = .returned (.slice ao N cap) ∧ N = (putB (nk, nc, nl, nt, no, ne, nw, nv, nd0, nd1, nd2, nd3, nh)).length ∧ Lie w' ao cap (putB (nk, nc, nl, nt, no, ne, nw, nv, nd0, nd1, nd2, nd3, nh)) ∧ Below W.heap.size W w') at hq
  simp only [mv] at hp hq
  have HP := Hid.in hp
  have HQ := Hid.in hq
  clear hp hq
  go_region_held3 (SM2 w #[.int .i64 k, .int .i64 c, .int .i64 l, .int .i64 t, .int .i64 o, .int .i64 e, .int .i64 w_, .int .u32 v, .int .u32 d0, .int .u32 d1, .int .u32 d2, .int .u32 d3, .bool h] #[.int .i64 nk, .int .i64 nc, .int .i64 nl, .int .i64 nt, .int .i64 no, .int .i64 ne, .int .i64 nw, .int .u32 nv, .int .u32 nd0, .int .u32 nd1, .int .u32 nd2, .int .u32 nd3, .bool nh]) (first | go_keep | (simp [*]; done))
    (first
      | (refine (HP.out _).mono ?_; rintro r w1 ⟨a1, M1, c1, rfl, hN1, hL1, hb1⟩; have hS1 : SM2 w #[.int .i64 k, .int .i64 c, .int .i64 l, .int .i64 t, .int .i64 o, .int .i64 e, .int .i64 w_, .int .u32 v, .int .u32 d0, .int .u32 d1, .int .u32 d2, .int .u32 d3, .bool h] #[.int .i64 nk, .int .i64 nc, .int .i64 nl, .int .i64 nt, .int .i64 no, .int .i64 ne, .int .i64 nw, .int .u32 nv, .int .u32 nd0, .int .u32 nd1, .int .u32 nd2, .int .u32 nd3, .bool nh] w1 := SM2.step (by assumption) hb1; have HS1 := Hid.in hS1; have HN1 := Hid.in hN1; have HL1 := Hid.in hL1; clear HP hN1 hL1 hb1)
      | (refine (HQ.out _).mono ?_; rintro r w2 ⟨a2, M2, c2, rfl, hN2, hL2, hb2⟩; have hS2 : SM2 w #[.int .i64 k, .int .i64 c, .int .i64 l, .int .i64 t, .int .i64 o, .int .i64 e, .int .i64 w_, .int .u32 v, .int .u32 d0, .int .u32 d1, .int .u32 d2, .int .u32 d3, .bool h] #[.int .i64 nk, .int .i64 nc, .int .i64 nl, .int .i64 nt, .int .i64 no, .int .i64 ne, .int .i64 nw, .int .u32 nv, .int .u32 nd0, .int .u32 nd1, .int .u32 nd2, .int .u32 nd3, .bool nh] w2 := HS1.out.step hb2; have HS2 := Hid.in hS2; have HN2 := Hid.in hN2; have HL2 := Hid.in hL2; have HL1b := Hid.in (HL1.out.step hb2); clear HQ hN2 hL2 hb2))
  clear sd sl hS hS1 hS2 HS1 HL1 HS0 p0 p1 p2 p3 p4 p5 p6 p7 p8 p9 p10 p11 p12 q0 q1 q2 q3 q4 q5 q6 q7 q8 q9 q10 q11 q12
  have HL1 := HL1b
  clear HL1b
  have m1 : 1 ≤ M1 ∧ M1 ≤ 110 := by rw [HN1.out, putB_yes _ HX.out]; exact ⟨(encM_len _ H32.out H64.out).2, (encM_len _ H32.out H64.out).1⟩
  obtain ⟨m10, m11⟩ := m1
  have m1' : ¬ ((M1 : Int) = 0) := by omega
  have m1b : ((M1 : Int) == 0) = false := by simpa using m1'
  have m2 : 1 ≤ M2 ∧ M2 ≤ 110 := by rw [HN2.out, putB_yes _ HY.out]; exact ⟨(encM_len _ G32.out G64.out).2, (encM_len _ G32.out G64.out).1⟩
  obtain ⟨m20, m21⟩ := m2
  have m2' : ¬ ((M2 : Int) = 0) := by omega
  have m2b : ((M2 : Int) == 0) = false := by simpa using m2'
  have E1 : Hid (M1 = (encM (k, c, l, t, o, e, w_, v, d0, d1, d2, d3, h)).length) := Hid.in (by rw [HN1.out, putB_yes _ HX.out])
  have E2 : Hid (M2 = (encM (nk, nc, nl, nt, no, ne, nw, nv, nd0, nd1, nd2, nd3, nh)).length) := Hid.in (by rw [HN2.out, putB_yes _ HY.out])
  have HLa := Hid.in (putB_yes _ HX.out ▸ HL1.out)
  have HLb := Hid.in (putB_yes _ HY.out ▸ HL2.out)
  clear HL1 HL2
  have HL1 := HLa
  have HL2 := HLb
  clear HLa HLb
  have x0 : w2.cell? ⟨w.heap.size, 0, none⟩ = some (.int .i64 k) := blk_cell HS2.out.bA rfl
  have x1 : w2.cell? ⟨w.heap.size, 1, none⟩ = some (.int .i64 c) := blk_cell HS2.out.bA rfl
  have x2 : w2.cell? ⟨w.heap.size, 2, none⟩ = some (.int .i64 l) := blk_cell HS2.out.bA rfl
  have x3 : w2.cell? ⟨w.heap.size, 3, none⟩ = some (.int .i64 t) := blk_cell HS2.out.bA rfl
  have x4 : w2.cell? ⟨w.heap.size, 4, none⟩ = some (.int .i64 o) := blk_cell HS2.out.bA rfl
  have x5 : w2.cell? ⟨w.heap.size, 5, none⟩ = some (.int .i64 e) := blk_cell HS2.out.bA rfl
  have x6 : w2.cell? ⟨w.heap.size, 6, none⟩ = some (.int .i64 w_) := blk_cell HS2.out.bA rfl
  have x7 : w2.cell? ⟨w.heap.size, 7, none⟩ = some (.int .u32 v) := blk_cell HS2.out.bA rfl
  have x8 : w2.cell? ⟨w.heap.size, 8, none⟩ = some (.int .u32 d0) := blk_cell HS2.out.bA rfl
  have x9 : w2.cell? ⟨w.heap.size, 9, none⟩ = some (.int .u32 d1) := blk_cell HS2.out.bA rfl
  have x10 : w2.cell? ⟨w.heap.size, 10, none⟩ = some (.int .u32 d2) := blk_cell HS2.out.bA rfl
  have x11 : w2.cell? ⟨w.heap.size, 11, none⟩ = some (.int .u32 d3) := blk_cell HS2.out.bA rfl
  have x12 : w2.cell? ⟨w.heap.size, 12, none⟩ = some (.bool h) := blk_cell HS2.out.bA rfl
  have hr := sRight_any (k, c, l, t, o, e, w_, v, d0, d1, d2, d3, h) w2 H32.out H64.out
  rw [HX.out] at hr
  simp only [mv] at hr
  go_wp2_with fail
  refine hr.mono ?_
  rintro r w3 ⟨rfl, hb⟩
  have HS3 := Hid.in (HS2.out.step hb)
  have HLa := Hid.in (HL1.out.step hb)
  have HLb := Hid.in (HL2.out.step hb)
  clear hr hb HL1 HL2 x0 x1 x2 x3 x4 x5 x6 x7 x8 x9 x10 x11 x12
  have HL1 := HLa
  have HL2 := HLb
  clear HLa HLb
  have x0 : w3.cell? ⟨w.heap.size + 1, 0, none⟩ = some (.int .i64 nk) := blk_cell HS3.out.bB rfl
  have x1 : w3.cell? ⟨w.heap.size + 1, 1, none⟩ = some (.int .i64 nc) := blk_cell HS3.out.bB rfl
  have x2 : w3.cell? ⟨w.heap.size + 1, 2, none⟩ = some (.int .i64 nl) := blk_cell HS3.out.bB rfl
  have x3 : w3.cell? ⟨w.heap.size + 1, 3, none⟩ = some (.int .i64 nt) := blk_cell HS3.out.bB rfl
  have x4 : w3.cell? ⟨w.heap.size + 1, 4, none⟩ = some (.int .i64 no) := blk_cell HS3.out.bB rfl
  have x5 : w3.cell? ⟨w.heap.size + 1, 5, none⟩ = some (.int .i64 ne) := blk_cell HS3.out.bB rfl
  have x6 : w3.cell? ⟨w.heap.size + 1, 6, none⟩ = some (.int .i64 nw) := blk_cell HS3.out.bB rfl
  have x7 : w3.cell? ⟨w.heap.size + 1, 7, none⟩ = some (.int .u32 nv) := blk_cell HS3.out.bB rfl
  have x8 : w3.cell? ⟨w.heap.size + 1, 8, none⟩ = some (.int .u32 nd0) := blk_cell HS3.out.bB rfl
  have x9 : w3.cell? ⟨w.heap.size + 1, 9, none⟩ = some (.int .u32 nd1) := blk_cell HS3.out.bB rfl
  have x10 : w3.cell? ⟨w.heap.size + 1, 10, none⟩ = some (.int .u32 nd2) := blk_cell HS3.out.bB rfl
  have x11 : w3.cell? ⟨w.heap.size + 1, 11, none⟩ = some (.int .u32 nd3) := blk_cell HS3.out.bB rfl
  have x12 : w3.cell? ⟨w.heap.size + 1, 12, none⟩ = some (.bool nh) := blk_cell HS3.out.bB rfl
  have hr := sRight_any (nk, nc, nl, nt, no, ne, nw, nv, nd0, nd1, nd2, nd3, nh) w3 G32.out G64.out
  rw [HY.out] at hr
  simp only [mv] at hr
  go_wp2_with fail
  refine hr.mono ?_
  rintro r w4 ⟨rfl, hb⟩
  have HS4 := Hid.in (HS3.out.step hb)
  have HLa := Hid.in (HL1.out.step hb)
  have HLb := Hid.in (HL2.out.step hb)
  clear hr hb HL1 HL2 x0 x1 x2 x3 x4 x5 x6 x7 x8 x9 x10 x11 x12
  have HL1 := HLa
  have HL2 := HLb
  clear HLa HLb
  have HO0 : Hid (Own (w4.alloc (.cells #[] 5)) w4.heap.size (some ⟨w4.heap.size, 0, none⟩) 0 0 []) := Hid.in (Own.lit0 w4 _ (Nat.le_refl _))
  have HB0 := Hid.in (below_alloc w4 (.cells #[] 5))
  have HLa := Hid.in (HL1.out.step HB0.out)
  have k1 : 0 + M1 ≤ 140737488355328 := by omega
  have k2 : M1 + M2 ≤ 140737488355328 := by omega
  have he := fun aa NN cc WW hE2 hN2 hL2 => sGet_any aa NN cc (encM (k, c, l, t, o, e, w_, v, d0, d1, d2, d3, h) ++ encM (nk, nc, nl, nt, no, ne, nw, nv, nd0, nd1, nd2, nd3, nh)) WW sa hE2 hN2 hL2 (both_byte _ _) (by rw [List.length_append, ← E1.out, ← E2.out]; omega)
  rw [tails _ _ H32.out ((rtB_iff _).1 HX.out) G32.out G64.out] at he
  simp only [mv, zero13] at he
  have HGE := Hid.in he
  clear he
  go_wp2_with (at_builtin; first
    | (refine wpList_concat rfl (.tmp 55) (.tmp 56) rfl w4.heap.size w4 (some ⟨w4.heap.size, 0, none⟩) a1 0 0 M1 c1 [] (encM (k, c, l, t, o, e, w_, v, d0, d1, d2, d3, h)) rfl HO0.out rfl E1.out HLa.out HB0.out (by simp) k1 ?_; intro a5 c5 w5 HO5 HB5; simp only [Nat.zero_add, List.nil_append] at HO5; have HLc := Hid.in (HL2.out.step HB5.out); have hs5 : w4.heap.size ≤ w5.heap.size := HB5.out.size)
    | (refine wpList_concat rfl (.tmp 57) (.tmp 58) rfl w4.heap.size w4 a5 a2 M1 c5 M2 c2 (encM (k, c, l, t, o, e, w_, v, d0, d1, d2, d3, h)) (encM (nk, nc, nl, nt, no, ne, nw, nv, nd0, nd1, nd2, nd3, nh)) rfl HO5.out rfl E2.out HLc.out HB5.out hs5 k2 ?_; intro a6 c6 w6 HO6 HB6))
  refine (HGE.out a6 (M1 + M2) c6 w6 (HE.out.below (bstep HS4.out.be (Nat.le_refl _) HB6.out)) (by rw [List.length_append, ← E1.out, ← E2.out]) HO6.out.lie).mono ?_
  rintro r w7 ⟨l7, rfl, hb7, _⟩
  have hb47 := bstep (bstep HB6.out (Nat.le_refl _) hb7) (Nat.le_refl _) (below_alloc w7 (.cells #[.int .i64 0, .int .i64 0, .int .i64 0, .int .i64 0, .int .i64 0, .int .i64 0, .int .i64 0, .int .u32 0, .int .u32 0, .int .u32 0, .int .u32 0, .int .u32 0, .bool false] 28))
  have HS8 := Hid.in (HS4.out.step hb47)
  have HLa := Hid.in (HL1.out.step hb47)
  have HLb := Hid.in (HL2.out.step hb47)
  clear hb7 hb47 HL1 HL2 HGE HO6 HO5 HB6 HB5 HO0 HB0 HLc
  try clear HS4
  have HL1 := HLa
  have HL2 := HLb
  clear HLa HLb
  go_upto_region 5 with fail
  generalize hX : w7.alloc (.cells #[.int .i64 0, .int .i64 0, .int .i64 0, .int .i64 0, .int .i64 0, .int .i64 0, .int .i64 0, .int .u32 0, .int .u32 0, .int .u32 0, .int .u32 0, .int .u32 0, .bool false] 28) = w8 at *
  clear hX
  go_wp2_with fail
  refine (kIs_flt opSGet 0 l7 5 (by omega) (by omega) w8 sa (HE.out.below HS8.out.be)).mono ?_
  rintro r w9 ⟨rfl, hb⟩
  have HS9 := Hid.in (HS8.out.step hb)
  have HLa := Hid.in (HL1.out.step hb)
  have HLb := Hid.in (HL2.out.step hb)
  clear hb HL1 HL2 HS8
  have HL1 := HLa
  have HL2 := HLb
  clear HLa HLb
  have x0 : w9.cell? ⟨w.heap.size, 0, none⟩ = some (.int .i64 k) := blk_cell HS9.out.bA rfl
  have x1 : w9.cell? ⟨w.heap.size, 1, none⟩ = some (.int .i64 c) := blk_cell HS9.out.bA rfl
  have x2 : w9.cell? ⟨w.heap.size, 2, none⟩ = some (.int .i64 l) := blk_cell HS9.out.bA rfl
  have x3 : w9.cell? ⟨w.heap.size, 3, none⟩ = some (.int .i64 t) := blk_cell HS9.out.bA rfl
  have x4 : w9.cell? ⟨w.heap.size, 4, none⟩ = some (.int .i64 o) := blk_cell HS9.out.bA rfl
  have x5 : w9.cell? ⟨w.heap.size, 5, none⟩ = some (.int .i64 e) := blk_cell HS9.out.bA rfl
  have x6 : w9.cell? ⟨w.heap.size, 6, none⟩ = some (.int .i64 w_) := blk_cell HS9.out.bA rfl
  have x7 : w9.cell? ⟨w.heap.size, 7, none⟩ = some (.int .u32 v) := blk_cell HS9.out.bA rfl
  have x8 : w9.cell? ⟨w.heap.size, 8, none⟩ = some (.int .u32 d0) := blk_cell HS9.out.bA rfl
  have x9 : w9.cell? ⟨w.heap.size, 9, none⟩ = some (.int .u32 d1) := blk_cell HS9.out.bA rfl
  have x10 : w9.cell? ⟨w.heap.size, 10, none⟩ = some (.int .u32 d2) := blk_cell HS9.out.bA rfl
  have x11 : w9.cell? ⟨w.heap.size, 11, none⟩ = some (.int .u32 d3) := blk_cell HS9.out.bA rfl
  have x12 : w9.cell? ⟨w.heap.size, 12, none⟩ = some (.bool h) := blk_cell HS9.out.bA rfl
  have y0 : w9.cell? ⟨w.heap.size + 1, 0, none⟩ = some (.int .i64 nk) := blk_cell HS9.out.bB rfl
  have y1 : w9.cell? ⟨w.heap.size + 1, 1, none⟩ = some (.int .i64 nc) := blk_cell HS9.out.bB rfl
  have y2 : w9.cell? ⟨w.heap.size + 1, 2, none⟩ = some (.int .i64 nl) := blk_cell HS9.out.bB rfl
  have y3 : w9.cell? ⟨w.heap.size + 1, 3, none⟩ = some (.int .i64 nt) := blk_cell HS9.out.bB rfl
  have y4 : w9.cell? ⟨w.heap.size + 1, 4, none⟩ = some (.int .i64 no) := blk_cell HS9.out.bB rfl
  have y5 : w9.cell? ⟨w.heap.size + 1, 5, none⟩ = some (.int .i64 ne) := blk_cell HS9.out.bB rfl
  have y6 : w9.cell? ⟨w.heap.size + 1, 6, none⟩ = some (.int .i64 nw) := blk_cell HS9.out.bB rfl
  have y7 : w9.cell? ⟨w.heap.size + 1, 7, none⟩ = some (.int .u32 nv) := blk_cell HS9.out.bB rfl
  have y8 : w9.cell? ⟨w.heap.size + 1, 8, none⟩ = some (.int .u32 nd0) := blk_cell HS9.out.bB rfl
  have y9 : w9.cell? ⟨w.heap.size + 1, 9, none⟩ = some (.int .u32 nd1) := blk_cell HS9.out.bB rfl
  have y10 : w9.cell? ⟨w.heap.size + 1, 10, none⟩ = some (.int .u32 nd2) := blk_cell HS9.out.bB rfl
  have y11 : w9.cell? ⟨w.heap.size + 1, 11, none⟩ = some (.int .u32 nd3) := blk_cell HS9.out.bB rfl
  have y12 : w9.cell? ⟨w.heap.size + 1, 12, none⟩ = some (.bool nh) := blk_cell HS9.out.bB rfl
  have hen := fun w => eq_msgIn' (k, c, l, t, o, e, w_, v, d0, d1, d2, d3, h) (nk, nc, nl, nt, no, ne, nw, nv, nd0, nd1, nd2, nd3, nh) w
  rw [HD.out] at hen
  simp only [mv] at hen
  have hle : ¬ ((M1 : Int) ≤ (M2 : Int)) := by have := HLE.out; have := E1.out; have := E2.out; omega
  have hg1 := fun WW hE2 hL2 => sGet_any a1 M1 c1 (encM (k, c, l, t, o, e, w_, v, d0, d1, d2, d3, h)) WW sa hE2 E1.out hL2 (encM_byte _) (by rw [← E1.out]; omega)
  rw [gotM_enc _ H32.out ((rtB_iff _).1 HX.out)] at hg1
  simp only [mv, gErr_zero] at hg1
  have hg2 := fun WW hE2 hL2 => sGet_any a2 M2 c2 (encM (nk, nc, nl, nt, no, ne, nw, nv, nd0, nd1, nd2, nd3, nh)) WW sa hE2 E2.out hL2 (encM_byte _) (by rw [← E2.out]; omega)
  rw [gotM_enc _ G32.out ((rtB_iff _).1 HY.out)] at hg2
  simp only [mv, gErr_zero] at hg2
  have HG1 := Hid.in hg1
  have HG2 := Hid.in hg2
  clear hg1 hg2
  go_wp2_with fail
  refine (HG1.out _ (HE.out.below HS9.out.be) HL1.out).mono ?_
  rintro r w11 ⟨_, rfl, hb, _⟩
  clear x0 x1 x2 x3 x4 x5 x6 x7 x8 x9 x10 x11 x12
  clear y0 y1 y2 y3 y4 y5 y6 y7 y8 y9 y10 y11 y12
  clear hen
  have hb2 := bstep hb (Nat.le_refl _) (below_alloc w11 (.cells #[.int .i64 k, .int .i64 c, .int .i64 l, .int .i64 t, .int .i64 o, .int .i64 e, .int .i64 w_, .int .u32 v, .int .u32 d0, .int .u32 d1, .int .u32 d2, .int .u32 d3, .bool h] 28))
  have HS12 := Hid.in (HS9.out.step hb2)
  have HLb := Hid.in (HL2.out.step hb2)
  have HX12 : Hid ((w11.alloc (.cells #[.int .i64 k, .int .i64 c, .int .i64 l, .int .i64 t, .int .i64 o, .int .i64 e, .int .i64 w_, .int .u32 v, .int .u32 d0, .int .u32 d1, .int .u32 d2, .int .u32 d3, .bool h] 28)).heap[w11.heap.size]? = some (.cells #[.int .i64 k, .int .i64 c, .int .i64 l, .int .i64 t, .int .i64 o, .int .i64 e, .int .i64 w_, .int .u32 v, .int .u32 d0, .int .u32 d1, .int .u32 d2, .int .u32 d3, .bool h] 28 (0, 0))) := Hid.in (heap_alloc_new _ _)
  clear hb hb2 HL1 HL2 HG1 HS9
  have HL2 := HLb
  clear HLb
  go_upto_region 8 with fail
  generalize hX : w11.alloc (.cells #[.int .i64 k, .int .i64 c, .int .i64 l, .int .i64 t, .int .i64 o, .int .i64 e, .int .i64 w_, .int .u32 v, .int .u32 d0, .int .u32 d1, .int .u32 d2, .int .u32 d3, .bool h] 28) = w12 at *
  clear hX
  go_wp2_with fail
  refine (HG2.out _ (HE.out.below HS12.out.be) HL2.out).mono ?_
  rintro r w13 ⟨_, rfl, hb, _⟩
  have hb2 := bstep hb (Nat.le_refl _) (below_alloc w13 (.cells #[.int .i64 nk, .int .i64 nc, .int .i64 nl, .int .i64 nt, .int .i64 no, .int .i64 ne, .int .i64 nw, .int .u32 nv, .int .u32 nd0, .int .u32 nd1, .int .u32 nd2, .int .u32 nd3, .bool nh] 28))
  have HS14 := Hid.in (HS12.out.step hb2)
  have HX14 := Hid.in (blk_step HX12.out hb2)
  have HY14 : Hid ((w13.alloc (.cells #[.int .i64 nk, .int .i64 nc, .int .i64 nl, .int .i64 nt, .int .i64 no, .int .i64 ne, .int .i64 nw, .int .u32 nv, .int .u32 nd0, .int .u32 nd1, .int .u32 nd2, .int .u32 nd3, .bool nh] 28)).heap[w13.heap.size]? = some (.cells #[.int .i64 nk, .int .i64 nc, .int .i64 nl, .int .i64 nt, .int .i64 no, .int .i64 ne, .int .i64 nw, .int .u32 nv, .int .u32 nd0, .int .u32 nd1, .int .u32 nd2, .int .u32 nd3, .bool nh] 28 (0, 0))) := Hid.in (heap_alloc_new _ _)
  clear hb hb2 HL2 HG2 HS12 HX12
  go_upto_region 9 with fail
  generalize hX : w13.alloc (.cells #[.int .i64 nk, .int .i64 nc, .int .i64 nl, .int .i64 nt, .int .i64 no, .int .i64 ne, .int .i64 nw, .int .u32 nv, .int .u32 nd0, .int .u32 nd1, .int .u32 nd2, .int .u32 nd3, .bool nh] 28) = w14 at *
  clear hX
  have x0 : w14.cell? ⟨w.heap.size, 0, none⟩ = some (.int .i64 k) := blk_cell HS14.out.bA rfl
  have x1 : w14.cell? ⟨w.heap.size, 1, none⟩ = some (.int .i64 c) := blk_cell HS14.out.bA rfl
  have x2 : w14.cell? ⟨w.heap.size, 2, none⟩ = some (.int .i64 l) := blk_cell HS14.out.bA rfl
  have x3 : w14.cell? ⟨w.heap.size, 3, none⟩ = some (.int .i64 t) := blk_cell HS14.out.bA rfl
  have x4 : w14.cell? ⟨w.heap.size, 4, none⟩ = some (.int .i64 o) := blk_cell HS14.out.bA rfl
  have x5 : w14.cell? ⟨w.heap.size, 5, none⟩ = some (.int .i64 e) := blk_cell HS14.out.bA rfl
  have x6 : w14.cell? ⟨w.heap.size, 6, none⟩ = some (.int .i64 w_) := blk_cell HS14.out.bA rfl
  have x7 : w14.cell? ⟨w.heap.size, 7, none⟩ = some (.int .u32 v) := blk_cell HS14.out.bA rfl
  have x8 : w14.cell? ⟨w.heap.size, 8, none⟩ = some (.int .u32 d0) := blk_cell HS14.out.bA rfl
  have x9 : w14.cell? ⟨w.heap.size, 9, none⟩ = some (.int .u32 d1) := blk_cell HS14.out.bA rfl
  have x10 : w14.cell? ⟨w.heap.size, 10, none⟩ = some (.int .u32 d2) := blk_cell HS14.out.bA rfl
  have x11 : w14.cell? ⟨w.heap.size, 11, none⟩ = some (.int .u32 d3) := blk_cell HS14.out.bA rfl
  have x12 : w14.cell? ⟨w.heap.size, 12, none⟩ = some (.bool h) := blk_cell HS14.out.bA rfl
  have y0 : w14.cell? ⟨w.heap.size + 1, 0, none⟩ = some (.int .i64 nk) := blk_cell HS14.out.bB rfl
  have y1 : w14.cell? ⟨w.heap.size + 1, 1, none⟩ = some (.int .i64 nc) := blk_cell HS14.out.bB rfl
  have y2 : w14.cell? ⟨w.heap.size + 1, 2, none⟩ = some (.int .i64 nl) := blk_cell HS14.out.bB rfl
  have y3 : w14.cell? ⟨w.heap.size + 1, 3, none⟩ = some (.int .i64 nt) := blk_cell HS14.out.bB rfl
  have y4 : w14.cell? ⟨w.heap.size + 1, 4, none⟩ = some (.int .i64 no) := blk_cell HS14.out.bB rfl
  have y5 : w14.cell? ⟨w.heap.size + 1, 5, none⟩ = some (.int .i64 ne) := blk_cell HS14.out.bB rfl
  have y6 : w14.cell? ⟨w.heap.size + 1, 6, none⟩ = some (.int .i64 nw) := blk_cell HS14.out.bB rfl
  have y7 : w14.cell? ⟨w.heap.size + 1, 7, none⟩ = some (.int .u32 nv) := blk_cell HS14.out.bB rfl
  have y8 : w14.cell? ⟨w.heap.size + 1, 8, none⟩ = some (.int .u32 nd0) := blk_cell HS14.out.bB rfl
  have y9 : w14.cell? ⟨w.heap.size + 1, 9, none⟩ = some (.int .u32 nd1) := blk_cell HS14.out.bB rfl
  have y10 : w14.cell? ⟨w.heap.size + 1, 10, none⟩ = some (.int .u32 nd2) := blk_cell HS14.out.bB rfl
  have y11 : w14.cell? ⟨w.heap.size + 1, 11, none⟩ = some (.int .u32 nd3) := blk_cell HS14.out.bB rfl
  have y12 : w14.cell? ⟨w.heap.size + 1, 12, none⟩ = some (.bool nh) := blk_cell HS14.out.bB rfl
  have u0 : w14.cell? ⟨w11.heap.size, 0, none⟩ = some (.int .i64 k) := blk_cell HX14.out rfl
  have u1 : w14.cell? ⟨w11.heap.size, 1, none⟩ = some (.int .i64 c) := blk_cell HX14.out rfl
  have u2 : w14.cell? ⟨w11.heap.size, 2, none⟩ = some (.int .i64 l) := blk_cell HX14.out rfl
  have u3 : w14.cell? ⟨w11.heap.size, 3, none⟩ = some (.int .i64 t) := blk_cell HX14.out rfl
  have u4 : w14.cell? ⟨w11.heap.size, 4, none⟩ = some (.int .i64 o) := blk_cell HX14.out rfl
  have u5 : w14.cell? ⟨w11.heap.size, 5, none⟩ = some (.int .i64 e) := blk_cell HX14.out rfl
  have u6 : w14.cell? ⟨w11.heap.size, 6, none⟩ = some (.int .i64 w_) := blk_cell HX14.out rfl
  have u7 : w14.cell? ⟨w11.heap.size, 7, none⟩ = some (.int .u32 v) := blk_cell HX14.out rfl
  have u8 : w14.cell? ⟨w11.heap.size, 8, none⟩ = some (.int .u32 d0) := blk_cell HX14.out rfl
  have u9 : w14.cell? ⟨w11.heap.size, 9, none⟩ = some (.int .u32 d1) := blk_cell HX14.out rfl
  have u10 : w14.cell? ⟨w11.heap.size, 10, none⟩ = some (.int .u32 d2) := blk_cell HX14.out rfl
  have u11 : w14.cell? ⟨w11.heap.size, 11, none⟩ = some (.int .u32 d3) := blk_cell HX14.out rfl
  have u12 : w14.cell? ⟨w11.heap.size, 12, none⟩ = some (.bool h) := blk_cell HX14.out rfl
  have z0 : w14.cell? ⟨w13.heap.size, 0, none⟩ = some (.int .i64 nk) := blk_cell HY14.out rfl
  have z1 : w14.cell? ⟨w13.heap.size, 1, none⟩ = some (.int .i64 nc) := blk_cell HY14.out rfl
  have z2 : w14.cell? ⟨w13.heap.size, 2, none⟩ = some (.int .i64 nl) := blk_cell HY14.out rfl
  have z3 : w14.cell? ⟨w13.heap.size, 3, none⟩ = some (.int .i64 nt) := blk_cell HY14.out rfl
  have z4 : w14.cell? ⟨w13.heap.size, 4, none⟩ = some (.int .i64 no) := blk_cell HY14.out rfl
  have z5 : w14.cell? ⟨w13.heap.size, 5, none⟩ = some (.int .i64 ne) := blk_cell HY14.out rfl
  have z6 : w14.cell? ⟨w13.heap.size, 6, none⟩ = some (.int .i64 nw) := blk_cell HY14.out rfl
  have z7 : w14.cell? ⟨w13.heap.size, 7, none⟩ = some (.int .u32 nv) := blk_cell HY14.out rfl
  have z8 : w14.cell? ⟨w13.heap.size, 8, none⟩ = some (.int .u32 nd0) := blk_cell HY14.out rfl
  have z9 : w14.cell? ⟨w13.heap.size, 9, none⟩ = some (.int .u32 nd1) := blk_cell HY14.out rfl
  have z10 : w14.cell? ⟨w13.heap.size, 10, none⟩ = some (.int .u32 nd2) := blk_cell HY14.out rfl
  have z11 : w14.cell? ⟨w13.heap.size, 11, none⟩ = some (.int .u32 nd3) := blk_cell HY14.out rfl
  have z12 : w14.cell? ⟨w13.heap.size, 12, none⟩ = some (.bool nh) := blk_cell HY14.out rfl
  have he1 := fun w => eq_msgIn' (k, c, l, t, o, e, w_, v, d0, d1, d2, d3, h) (k, c, l, t, o, e, w_, v, d0, d1, d2, d3, h) w
  rw [eqB_self] at he1
  simp only [mv] at he1
  have he2 := fun w => eq_msgIn' (nk, nc, nl, nt, no, ne, nw, nv, nd0, nd1, nd2, nd3, nh) (nk, nc, nl, nt, no, ne, nw, nv, nd0, nd1, nd2, nd3, nh) w
  rw [eqB_self] at he2
  simp only [mv] at he2
  go_wp2_with fail
  refine (msgRuns_any _ sa (HE.out.below HS14.out.be)).mono ?_
  rintro r w15 ⟨rfl, hb⟩
  have HS15 := Hid.in (HS14.out.step hb)
  clear hb
  go_wp2
  go_ret
  exact ⟨rfl, HS15.out.be⟩

set_option maxHeartbeats 6400000 in
set_option maxRecDepth 20000 in
theorem msgApart_short (w : World) (sa : Nat → Addr) (hE : Env10 w sa) (k c l t o e w_ v d0 d1 d2 d3 : Int) (h : Bool) (nk nc nl nt no ne nw nv nd0 nd1 nd2 nd3 : Int) (nh : Bool) (h32 : M32 (k, c, l, t, o, e, w_, v, d0, d1, d2, d3, h)) (h64 : M64 (k, c, l, t, o, e, w_, v, d0, d1, d2, d3, h)) (g32 : M32 (nk, nc, nl, nt, no, ne, nw, nv, nd0, nd1, nd2, nd3, nh)) (g64 : M64 (nk, nc, nl, nt, no, ne, nw, nv, nd0, nd1, nd2, nd3, nh)) (hx : rtB (k, c, l, t, o, e, w_, v, d0, d1, d2, d3, h) = true) (hy : rtB (nk, nc, nl, nt, no, ne, nw, nv, nd0, nd1, nd2, nd3, nh) = true) (hd : eqB (k, c, l, t, o, e, w_, v, d0, d1, d2, d3, h) (nk, nc, nl, nt, no, ne, nw, nv, nd0, nd1, nd2, nd3, nh) = false) (hl : (encM (k, c, l, t, o, e, w_, v, d0, d1, d2, d3, h)).length ≤ (encM (nk, nc, nl, nt, no, ne, nw, nv, nd0, nd1, nd2, nd3, nh)).length) :
    Calls Tryd.prog 8 #[.agg #[.int .i64 k, .int .i64 c, .int .i64 l, .int .i64 t, .int .i64 o, .int .i64 e, .int .i64 w_, .int .u32 v, .int .u32 d0, .int .u32 d1, .int .u32 d2, .int .u32 d3, .bool h], .agg #[.int .i64 nk, .int .i64 nc, .int .i64 nl, .int .i64 nt, .int .i64 no, .int .i64 ne, .int .i64 nw, .int .u32 nv, .int .u32 nd0, .int .u32 nd1, .int .u32 nd2, .int .u32 nd3, .bool nh]] w fun r w' => r = .returned (.bool true) ∧ Below w.heap.size w w' := by
  have HX := Hid.in hx
  have HY := Hid.in hy
  have HD := Hid.in hd
  have HLE := Hid.in hl
  clear hl
  clear hx hy hd
  have HE := Hid.in hE
  have H32 := Hid.in h32
  have H64 := Hid.in h64
  have G32 := Hid.in g32
  have G64 := Hid.in g64
  clear hE h32 h64 g32 g64
  have HS0 : Hid (SM2 w #[.int .i64 k, .int .i64 c, .int .i64 l, .int .i64 t, .int .i64 o, .int .i64 e, .int .i64 w_, .int .u32 v, .int .u32 d0, .int .u32 d1, .int .u32 d2, .int .u32 d3, .bool h] #[.int .i64 nk, .int .i64 nc, .int .i64 nl, .int .i64 nt, .int .i64 no, .int .i64 ne, .int .i64 nw, .int .u32 nv, .int .u32 nd0, .int .u32 nd1, .int .u32 nd2, .int .u32 nd3, .bool nh] ((w.alloc (.cells #[.int .i64 k, .int .i64 c, .int .i64 l, .int .i64 t, .int .i64 o, .int .i64 e, .int .i64 w_, .int .u32 v, .int .u32 d0, .int .u32 d1, .int .u32 d2, .int .u32 d3, .bool h] 28)).alloc (.cells #[.int .i64 nk, .int .i64 nc, .int .i64 nl, .int .i64 nt, .int .i64 no, .int .i64 ne, .int .i64 nw, .int .u32 nv, .int .u32 nd0, .int .u32 nd1, .int .u32 nd2, .int .u32 nd3, .bool nh] 28))) := Hid.in (SM2.start _ _ _)
  go_enter Tryd.func8, Tryd.ntmps8
  go_upto_region 1 with fail
  generalize hX : ((w.alloc (.cells #[.int .i64 k, .int .i64 c, .int .i64 l, .int .i64 t, .int .i64 o, .int .i64 e, .int .i64 w_, .int .u32 v, .int .u32 d0, .int .u32 d1, .int .u32 d2, .int .u32 d3, .bool h] 28)).alloc (.cells #[.int .i64 nk, .int .i64 nc, .int .i64 nl, .int .i64 nt, .int .i64 no, .int .i64 ne, .int .i64 nw, .int .u32 nv, .int .u32 nd0, .int .u32 nd1, .int .u32 nd2, .int .u32 nd3, .bool nh] 28)) = W0 at *
  clear hX
  have sd : ∀ W, SM2 w #[.int .i64 k, .int .i64 c, .int .i64 l, .int .i64 t, .int .i64 o, .int .i64 e, .int .i64 w_, .int .u32 v, .int .u32 d0, .int .u32 d1, .int .u32 d2, .int .u32 d3, .bool h] #[.int .i64 nk, .int .i64 nc, .int .i64 nl, .int .i64 nt, .int .i64 no, .int .i64 ne, .int .i64 nw, .int .u32 nv, .int .u32 nd0, .int .u32 nd1, .int .u32 nd2, .int .u32 nd3, .bool nh] W → SM2 w #[.int .i64 k, .int .i64 c, .int .i64 l, .int .i64 t, .int .i64 o, .int .i64 e, .int .i64 w_, .int .u32 v, .int .u32 d0, .int .u32 d1, .int .u32 d2, .int .u32 d3, .bool h] #[.int .i64 nk, .int .i64 nc, .int .i64 nl, .int .i64 nt, .int .i64 no, .int .i64 ne, .int .i64 nw, .int .u32 nv, .int .u32 nd0, .int .u32 nd1, .int .u32 nd2, .int .u32 nd3, .bool nh] W.drew := fun W h => h.step (Below.refl _ _).drew
  have sl : ∀ (W : World) (ob : Obj), SM2 w #[.int .i64 k, .int .i64 c, .int .i64 l, .int .i64 t, .int .i64 o, .int .i64 e, .int .i64 w_, .int .u32 v, .int .u32 d0, .int .u32 d1, .int .u32 d2, .int .u32 d3, .bool h] #[.int .i64 nk, .int .i64 nc, .int .i64 nl, .int .i64 nt, .int .i64 no, .int .i64 ne, .int .i64 nw, .int .u32 nv, .int .u32 nd0, .int .u32 nd1, .int .u32 nd2, .int .u32 nd3, .bool nh] W → SM2 w #[.int .i64 k, .int .i64 c, .int .i64 l, .int .i64 t, .int .i64 o, .int .i64 e, .int .i64 w_, .int .u32 v, .int .u32 d0, .int .u32 d1, .int .u32 d2, .int .u32 d3, .bool h] #[.int .i64 nk, .int .i64 nc, .int .i64 nl, .int .i64 nt, .int .i64 no, .int .i64 ne, .int .i64 nw, .int .u32 nv, .int .u32 nd0, .int .u32 nd1, .int .u32 nd2, .int .u32 nd3, .bool nh] (W.alloc ob) := fun W ob h => h.step (below_alloc _ _)
  have p0 : ∀ W, SM2 w #[.int .i64 k, .int .i64 c, .int .i64 l, .int .i64 t, .int .i64 o, .int .i64 e, .int .i64 w_, .int .u32 v, .int .u32 d0, .int .u32 d1, .int .u32 d2, .int .u32 d3, .bool h] #[.int .i64 nk, .int .i64 nc, .int .i64 nl, .int .i64 nt, .int .i64 no, .int .i64 ne, .int .i64 nw, .int .u32 nv, .int .u32 nd0, .int .u32 nd1, .int .u32 nd2, .int .u32 nd3, .bool nh] W → W.cell? ⟨w.heap.size, 0, none⟩ = some (.int .i64 k) := fun W h => blk_cell h.bA rfl
  have p1 : ∀ W, SM2 w #[.int .i64 k, .int .i64 c, .int .i64 l, .int .i64 t, .int .i64 o, .int .i64 e, .int .i64 w_, .int .u32 v, .int .u32 d0, .int .u32 d1, .int .u32 d2, .int .u32 d3, .bool h] #[.int .i64 nk, .int .i64 nc, .int .i64 nl, .int .i64 nt, .int .i64 no, .int .i64 ne, .int .i64 nw, .int .u32 nv, .int .u32 nd0, .int .u32 nd1, .int .u32 nd2, .int .u32 nd3, .bool nh] W → W.cell? ⟨w.heap.size, 1, none⟩ = some (.int .i64 c) := fun W h => blk_cell h.bA rfl
  have p2 : ∀ W, SM2 w #[.int .i64 k, .int .i64 c, .int .i64 l, .int .i64 t, .int .i64 o, .int .i64 e, .int .i64 w_, .int .u32 v, .int .u32 d0, .int .u32 d1, .int .u32 d2, .int .u32 d3, .bool h] #[.int .i64 nk, .int .i64 nc, .int .i64 nl, .int .i64 nt, .int .i64 no, .int .i64 ne, .int .i64 nw, .int .u32 nv, .int .u32 nd0, .int .u32 nd1, .int .u32 nd2, .int .u32 nd3, .bool nh] W → W.cell? ⟨w.heap.size, 2, none⟩ = some (.int .i64 l) := fun W h => blk_cell h.bA rfl
  have p3 : ∀ W, SM2 w #[.int .i64 k, .int .i64 c, .int .i64 l, .int .i64 t, .int .i64 o, .int .i64 e, .int .i64 w_, .int .u32 v, .int .u32 d0, .int .u32 d1, .int .u32 d2, .int .u32 d3, .bool h] #[.int .i64 nk, .int .i64 nc, .int .i64 nl, .int .i64 nt, .int .i64 no, .int .i64 ne, .int .i64 nw, .int .u32 nv, .int .u32 nd0, .int .u32 nd1, .int .u32 nd2, .int .u32 nd3, .bool nh] W → W.cell? ⟨w.heap.size, 3, none⟩ = some (.int .i64 t) := fun W h => blk_cell h.bA rfl
  have p4 : ∀ W, SM2 w #[.int .i64 k, .int .i64 c, .int .i64 l, .int .i64 t, .int .i64 o, .int .i64 e, .int .i64 w_, .int .u32 v, .int .u32 d0, .int .u32 d1, .int .u32 d2, .int .u32 d3, .bool h] #[.int .i64 nk, .int .i64 nc, .int .i64 nl, .int .i64 nt, .int .i64 no, .int .i64 ne, .int .i64 nw, .int .u32 nv, .int .u32 nd0, .int .u32 nd1, .int .u32 nd2, .int .u32 nd3, .bool nh] W → W.cell? ⟨w.heap.size, 4, none⟩ = some (.int .i64 o) := fun W h => blk_cell h.bA rfl
  have p5 : ∀ W, SM2 w #[.int .i64 k, .int .i64 c, .int .i64 l, .int .i64 t, .int .i64 o, .int .i64 e, .int .i64 w_, .int .u32 v, .int .u32 d0, .int .u32 d1, .int .u32 d2, .int .u32 d3, .bool h] #[.int .i64 nk, .int .i64 nc, .int .i64 nl, .int .i64 nt, .int .i64 no, .int .i64 ne, .int .i64 nw, .int .u32 nv, .int .u32 nd0, .int .u32 nd1, .int .u32 nd2, .int .u32 nd3, .bool nh] W → W.cell? ⟨w.heap.size, 5, none⟩ = some (.int .i64 e) := fun W h => blk_cell h.bA rfl
  have p6 : ∀ W, SM2 w #[.int .i64 k, .int .i64 c, .int .i64 l, .int .i64 t, .int .i64 o, .int .i64 e, .int .i64 w_, .int .u32 v, .int .u32 d0, .int .u32 d1, .int .u32 d2, .int .u32 d3, .bool h] #[.int .i64 nk, .int .i64 nc, .int .i64 nl, .int .i64 nt, .int .i64 no, .int .i64 ne, .int .i64 nw, .int .u32 nv, .int .u32 nd0, .int .u32 nd1, .int .u32 nd2, .int .u32 nd3, .bool nh] W → W.cell? ⟨w.heap.size, 6, none⟩ = some (.int .i64 w_) := fun W h => blk_cell h.bA rfl
  have p7 : ∀ W, SM2 w #[.int .i64 k, .int .i64 c, .int .i64 l, .int .i64 t, .int .i64 o, .int .i64 e, .int .i64 w_, .int .u32 v, .int .u32 d0, .int .u32 d1, .int .u32 d2, .int .u32 d3, .bool h] #[.int .i64 nk, .int .i64 nc, .int .i64 nl, .int .i64 nt, .int .i64 no, .int .i64 ne, .int .i64 nw, .int .u32 nv, .int .u32 nd0, .int .u32 nd1, .int .u32 nd2, .int .u32 nd3, .bool nh] W → W.cell? ⟨w.heap.size, 7, none⟩ = some (.int .u32 v) := fun W h => blk_cell h.bA rfl
  have p8 : ∀ W, SM2 w #[.int .i64 k, .int .i64 c, .int .i64 l, .int .i64 t, .int .i64 o, .int .i64 e, .int .i64 w_, .int .u32 v, .int .u32 d0, .int .u32 d1, .int .u32 d2, .int .u32 d3, .bool h] #[.int .i64 nk, .int .i64 nc, .int .i64 nl, .int .i64 nt, .int .i64 no, .int .i64 ne, .int .i64 nw, .int .u32 nv, .int .u32 nd0, .int .u32 nd1, .int .u32 nd2, .int .u32 nd3, .bool nh] W → W.cell? ⟨w.heap.size, 8, none⟩ = some (.int .u32 d0) := fun W h => blk_cell h.bA rfl
  have p9 : ∀ W, SM2 w #[.int .i64 k, .int .i64 c, .int .i64 l, .int .i64 t, .int .i64 o, .int .i64 e, .int .i64 w_, .int .u32 v, .int .u32 d0, .int .u32 d1, .int .u32 d2, .int .u32 d3, .bool h] #[.int .i64 nk, .int .i64 nc, .int .i64 nl, .int .i64 nt, .int .i64 no, .int .i64 ne, .int .i64 nw, .int .u32 nv, .int .u32 nd0, .int .u32 nd1, .int .u32 nd2, .int .u32 nd3, .bool nh] W → W.cell? ⟨w.heap.size, 9, none⟩ = some (.int .u32 d1) := fun W h => blk_cell h.bA rfl
  have p10 : ∀ W, SM2 w #[.int .i64 k, .int .i64 c, .int .i64 l, .int .i64 t, .int .i64 o, .int .i64 e, .int .i64 w_, .int .u32 v, .int .u32 d0, .int .u32 d1, .int .u32 d2, .int .u32 d3, .bool h] #[.int .i64 nk, .int .i64 nc, .int .i64 nl, .int .i64 nt, .int .i64 no, .int .i64 ne, .int .i64 nw, .int .u32 nv, .int .u32 nd0, .int .u32 nd1, .int .u32 nd2, .int .u32 nd3, .bool nh] W → W.cell? ⟨w.heap.size, 10, none⟩ = some (.int .u32 d2) := fun W h => blk_cell h.bA rfl
  have p11 : ∀ W, SM2 w #[.int .i64 k, .int .i64 c, .int .i64 l, .int .i64 t, .int .i64 o, .int .i64 e, .int .i64 w_, .int .u32 v, .int .u32 d0, .int .u32 d1, .int .u32 d2, .int .u32 d3, .bool h] #[.int .i64 nk, .int .i64 nc, .int .i64 nl, .int .i64 nt, .int .i64 no, .int .i64 ne, .int .i64 nw, .int .u32 nv, .int .u32 nd0, .int .u32 nd1, .int .u32 nd2, .int .u32 nd3, .bool nh] W → W.cell? ⟨w.heap.size, 11, none⟩ = some (.int .u32 d3) := fun W h => blk_cell h.bA rfl
  have p12 : ∀ W, SM2 w #[.int .i64 k, .int .i64 c, .int .i64 l, .int .i64 t, .int .i64 o, .int .i64 e, .int .i64 w_, .int .u32 v, .int .u32 d0, .int .u32 d1, .int .u32 d2, .int .u32 d3, .bool h] #[.int .i64 nk, .int .i64 nc, .int .i64 nl, .int .i64 nt, .int .i64 no, .int .i64 ne, .int .i64 nw, .int .u32 nv, .int .u32 nd0, .int .u32 nd1, .int .u32 nd2, .int .u32 nd3, .bool nh] W → W.cell? ⟨w.heap.size, 12, none⟩ = some (.bool h) := fun W h => blk_cell h.bA rfl
  have q0 : ∀ W, SM2 w #[.int .i64 k, .int .i64 c, .int .i64 l, .int .i64 t, .int .i64 o, .int .i64 e, .int .i64 w_, .int .u32 v, .int .u32 d0, .int .u32 d1, .int .u32 d2, .int .u32 d3, .bool h] #[.int .i64 nk, .int .i64 nc, .int .i64 nl, .int .i64 nt, .int .i64 no, .int .i64 ne, .int .i64 nw, .int .u32 nv, .int .u32 nd0, .int .u32 nd1, .int .u32 nd2, .int .u32 nd3, .bool nh] W → W.cell? ⟨w.heap.size + 1, 0, none⟩ = some (.int .i64 nk) := fun W h => blk_cell h.bB rfl
  have q1 : ∀ W, SM2 w #[.int .i64 k, .int .i64 c, .int .i64 l, .int .i64 t, .int .i64 o, .int .i64 e, .int .i64 w_, .int .u32 v, .int .u32 d0, .int .u32 d1, .int .u32 d2, .int .u32 d3, .bool h] #[.int .i64 nk, .int .i64 nc, .int .i64 nl, .int .i64 nt, .int .i64 no, .int .i64 ne, .int .i64 nw, .int .u32 nv, .int .u32 nd0, .int .u32 nd1, .int .u32 nd2, .int .u32 nd3, .bool nh] W → W.cell? ⟨w.heap.size + 1, 1, none⟩ = some (.int .i64 nc) := fun W h => blk_cell h.bB rfl
  have q2 : ∀ W, SM2 w #[.int .i64 k, .int .i64 c, .int .i64 l, .int .i64 t, .int .i64 o, .int .i64 e, .int .i64 w_, .int .u32 v, .int .u32 d0, .int .u32 d1, .int .u32 d2, .int .u32 d3, .bool h] #[.int .i64 nk, .int .i64 nc, .int .i64 nl, .int .i64 nt, .int .i64 no, .int .i64 ne, .int .i64 nw, .int .u32 nv, .int .u32 nd0, .int .u32 nd1, .int .u32 nd2, .int .u32 nd3, .bool nh] W → W.cell? ⟨w.heap.size + 1, 2, none⟩ = some (.int .i64 nl) := fun W h => blk_cell h.bB rfl
  have q3 : ∀ W, SM2 w #[.int .i64 k, .int .i64 c, .int .i64 l, .int .i64 t, .int .i64 o, .int .i64 e, .int .i64 w_, .int .u32 v, .int .u32 d0, .int .u32 d1, .int .u32 d2, .int .u32 d3, .bool h] #[.int .i64 nk, .int .i64 nc, .int .i64 nl, .int .i64 nt, .int .i64 no, .int .i64 ne, .int .i64 nw, .int .u32 nv, .int .u32 nd0, .int .u32 nd1, .int .u32 nd2, .int .u32 nd3, .bool nh] W → W.cell? ⟨w.heap.size + 1, 3, none⟩ = some (.int .i64 nt) := fun W h => blk_cell h.bB rfl
  have q4 : ∀ W, SM2 w #[.int .i64 k, .int .i64 c, .int .i64 l, .int .i64 t, .int .i64 o, .int .i64 e, .int .i64 w_, .int .u32 v, .int .u32 d0, .int .u32 d1, .int .u32 d2, .int .u32 d3, .bool h] #[.int .i64 nk, .int .i64 nc, .int .i64 nl, .int .i64 nt, .int .i64 no, .int .i64 ne, .int .i64 nw, .int .u32 nv, .int .u32 nd0, .int .u32 nd1, .int .u32 nd2, .int .u32 nd3, .bool nh] W → W.cell? ⟨w.heap.size + 1, 4, none⟩ = some (.int .i64 no) := fun W h => blk_cell h.bB rfl
  have q5 : ∀ W, SM2 w #[.int .i64 k, .int .i64 c, .int .i64 l, .int .i64 t, .int .i64 o, .int .i64 e, .int .i64 w_, .int .u32 v, .int .u32 d0, .int .u32 d1, .int .u32 d2, .int .u32 d3, .bool h] #[.int .i64 nk, .int .i64 nc, .int .i64 nl, .int .i64 nt, .int .i64 no, .int .i64 ne, .int .i64 nw, .int .u32 nv, .int .u32 nd0, .int .u32 nd1, .int .u32 nd2, .int .u32 nd3, .bool nh] W → W.cell? ⟨w.heap.size + 1, 5, none⟩ = some (.int .i64 ne) := fun W h => blk_cell h.bB rfl
  have q6 : ∀ W, SM2 w #[.int .i64 k, .int .i64 c, .int .i64 l, .int .i64 t, .int .i64 o, .int .i64 e, .int .i64 w_, .int .u32 v, .int .u32 d0, .int .u32 d1, .int .u32 d2, .int .u32 d3, .bool h] #[.int .i64 nk, .int .i64 nc, .int .i64 nl, .int .i64 nt, .int .i64 no, .int .i64 ne, .int .i64 nw, .int .u32 nv, .int .u32 nd0, .int .u32 nd1, .int .u32 nd2, .int .u32 nd3, .bool nh] W → W.cell? ⟨w.heap.size + 1, 6, none⟩ = some (.int .i64 nw) := fun W h => blk_cell h.bB rfl
  have q7 : ∀ W, SM2 w #[.int .i64 k, .int .i64 c, .int .i64 l, .int .i64 t, .int .i64 o, .int .i64 e, .int .i64 w_, .int .u32 v, .int .u32 d0, .int .u32 d1, .int .u32 d2, .int .u32 d3, .bool h] #[.int .i64 nk, .int .i64 nc, .int .i64 nl, .int .i64 nt, .int .i64 no, .int .i64 ne, .int .i64 nw, .int .u32 nv, .int .u32 nd0, .int .u32 nd1, .int .u32 nd2, .int .u32 nd3, .bool nh] W → W.cell? ⟨w.heap.size + 1, 7, none⟩ = some (.int .u32 nv) := fun W h => blk_cell h.bB rfl
  have q8 : ∀ W, SM2 w #[.int .i64 k, .int .i64 c, .int .i64 l, .int .i64 t, .int .i64 o, .int .i64 e, .int .i64 w_, .int .u32 v, .int .u32 d0, .int .u32 d1, .int .u32 d2, .int .u32 d3, .bool h] #[.int .i64 nk, .int .i64 nc, .int .i64 nl, .int .i64 nt, .int .i64 no, .int .i64 ne, .int .i64 nw, .int .u32 nv, .int .u32 nd0, .int .u32 nd1, .int .u32 nd2, .int .u32 nd3, .bool nh] W → W.cell? ⟨w.heap.size + 1, 8, none⟩ = some (.int .u32 nd0) := fun W h => blk_cell h.bB rfl
  have q9 : ∀ W, SM2 w #[.int .i64 k, .int .i64 c, .int .i64 l, .int .i64 t, .int .i64 o, .int .i64 e, .int .i64 w_, .int .u32 v, .int .u32 d0, .int .u32 d1, .int .u32 d2, .int .u32 d3, .bool h] #[.int .i64 nk, .int .i64 nc, .int .i64 nl, .int .i64 nt, .int .i64 no, .int .i64 ne, .int .i64 nw, .int .u32 nv, .int .u32 nd0, .int .u32 nd1, .int .u32 nd2, .int .u32 nd3, .bool nh] W → W.cell? ⟨w.heap.size + 1, 9, none⟩ = some (.int .u32 nd1) := fun W h => blk_cell h.bB rfl
  have q10 : ∀ W, SM2 w #[.int .i64 k, .int .i64 c, .int .i64 l, .int .i64 t, .int .i64 o, .int .i64 e, .int .i64 w_, .int .u32 v, .int .u32 d0, .int .u32 d1, .int .u32 d2, .int .u32 d3, .bool h] #[.int .i64 nk, .int .i64 nc, .int .i64 nl, .int .i64 nt, .int .i64 no, .int .i64 ne, .int .i64 nw, .int .u32 nv, .int .u32 nd0, .int .u32 nd1, .int .u32 nd2, .int .u32 nd3, .bool nh] W → W.cell? ⟨w.heap.size + 1, 10, none⟩ = some (.int .u32 nd2) := fun W h => blk_cell h.bB rfl
  have q11 : ∀ W, SM2 w #[.int .i64 k, .int .i64 c, .int .i64 l, .int .i64 t, .int .i64 o, .int .i64 e, .int .i64 w_, .int .u32 v, .int .u32 d0, .int .u32 d1, .int .u32 d2, .int .u32 d3, .bool h] #[.int .i64 nk, .int .i64 nc, .int .i64 nl, .int .i64 nt, .int .i64 no, .int .i64 ne, .int .i64 nw, .int .u32 nv, .int .u32 nd0, .int .u32 nd1, .int .u32 nd2, .int .u32 nd3, .bool nh] W → W.cell? ⟨w.heap.size + 1, 11, none⟩ = some (.int .u32 nd3) := fun W h => blk_cell h.bB rfl
  have q12 : ∀ W, SM2 w #[.int .i64 k, .int .i64 c, .int .i64 l, .int .i64 t, .int .i64 o, .int .i64 e, .int .i64 w_, .int .u32 v, .int .u32 d0, .int .u32 d1, .int .u32 d2, .int .u32 d3, .bool h] #[.int .i64 nk, .int .i64 nc, .int .i64 nl, .int .i64 nt, .int .i64 no, .int .i64 ne, .int .i64 nw, .int .u32 nv, .int .u32 nd0, .int .u32 nd1, .int .u32 nd2, .int .u32 nd3, .bool nh] W → W.cell? ⟨w.heap.size + 1, 12, none⟩ = some (.bool nh) := fun W h => blk_cell h.bB rfl
  have hS := HS0.out
  have hp := fun W => sPut_any (k, c, l, t, o, e, w_, v, d0, d1, d2, d3, h) W H32.out H64.out
  have hq := fun W => sPut_any (nk, nc, nl, nt, no, ne, nw, nv, nd0, nd1, nd2, nd3, nh) W G32.out G64.out
  change ∀ W, Calls _ _ _ _ (fun r w' => ∃ ao N cap, r = .returned (.slice ao N cap) ∧ N = (putB (k, c, l, t, o, e, w_, v, d0, d1, d2, d3, h)).length ∧ Lie w' ao cap (putB (k, c, l, t, o, e, w_, v, d0, d1, d2, d3, h)) ∧ Below W.heap.size W w') at hp
  change ∀ W, Calls _ _ _ _ (fun r w' => ∃ ao N cap, r = .returned (.slice ao N cap) ∧ N = (putB (nk, nc, nl, nt, no, ne, nw, nv, nd0, nd1, nd2, nd3, nh)).length ∧ Lie w' ao cap (putB (nk, nc, nl, nt, no, ne, nw, nv, nd0, nd1, nd2, nd3, nh)) ∧ Below W.heap.size W w') at hq
  simp only [mv] at hp hq
  have HP := Hid.in hp
  have HQ := Hid.in hq
  clear hp hq
  go_region_held3 (SM2 w #[.int .i64 k, .int .i64 c, .int .i64 l, .int .i64 t, .int .i64 o, .int .i64 e, .int .i64 w_, .int .u32 v, .int .u32 d0, .int .u32 d1, .int .u32 d2, .int .u32 d3, .bool h] #[.int .i64 nk, .int .i64 nc, .int .i64 nl, .int .i64 nt, .int .i64 no, .int .i64 ne, .int .i64 nw, .int .u32 nv, .int .u32 nd0, .int .u32 nd1, .int .u32 nd2, .int .u32 nd3, .bool nh]) (first | go_keep | (simp [*]; done))
    (first
      | (refine (HP.out _).mono ?_; rintro r w1 ⟨a1, M1, c1, rfl, hN1, hL1, hb1⟩; have hS1 : SM2 w #[.int .i64 k, .int .i64 c, .int .i64 l, .int .i64 t, .int .i64 o, .int .i64 e, .int .i64 w_, .int .u32 v, .int .u32 d0, .int .u32 d1, .int .u32 d2, .int .u32 d3, .bool h] #[.int .i64 nk, .int .i64 nc, .int .i64 nl, .int .i64 nt, .int .i64 no, .int .i64 ne, .int .i64 nw, .int .u32 nv, .int .u32 nd0, .int .u32 nd1, .int .u32 nd2, .int .u32 nd3, .bool nh] w1 := SM2.step (by assumption) hb1; have HS1 := Hid.in hS1; have HN1 := Hid.in hN1; have HL1 := Hid.in hL1; clear HP hN1 hL1 hb1)
      | (refine (HQ.out _).mono ?_; rintro r w2 ⟨a2, M2, c2, rfl, hN2, hL2, hb2⟩; have hS2 : SM2 w #[.int .i64 k, .int .i64 c, .int .i64 l, .int .i64 t, .int .i64 o, .int .i64 e, .int .i64 w_, .int .u32 v, .int .u32 d0, .int .u32 d1, .int .u32 d2, .int .u32 d3, .bool h] #[.int .i64 nk, .int .i64 nc, .int .i64 nl, .int .i64 nt, .int .i64 no, .int .i64 ne, .int .i64 nw, .int .u32 nv, .int .u32 nd0, .int .u32 nd1, .int .u32 nd2, .int .u32 nd3, .bool nh] w2 := HS1.out.step hb2; have HS2 := Hid.in hS2; have HN2 := Hid.in hN2; have HL2 := Hid.in hL2; have HL1b := Hid.in (HL1.out.step hb2); clear HQ hN2 hL2 hb2))
  clear sd sl hS hS1 hS2 HS1 HL1 HS0 p0 p1 p2 p3 p4 p5 p6 p7 p8 p9 p10 p11 p12 q0 q1 q2 q3 q4 q5 q6 q7 q8 q9 q10 q11 q12
  have HL1 := HL1b
  clear HL1b
  have m1 : 1 ≤ M1 ∧ M1 ≤ 110 := by rw [HN1.out, putB_yes _ HX.out]; exact ⟨(encM_len _ H32.out H64.out).2, (encM_len _ H32.out H64.out).1⟩
  obtain ⟨m10, m11⟩ := m1
  have m1' : ¬ ((M1 : Int) = 0) := by omega
  have m1b : ((M1 : Int) == 0) = false := by simpa using m1'
  have m2 : 1 ≤ M2 ∧ M2 ≤ 110 := by rw [HN2.out, putB_yes _ HY.out]; exact ⟨(encM_len _ G32.out G64.out).2, (encM_len _ G32.out G64.out).1⟩
  obtain ⟨m20, m21⟩ := m2
  have m2' : ¬ ((M2 : Int) = 0) := by omega
  have m2b : ((M2 : Int) == 0) = false := by simpa using m2'
  have E1 : Hid (M1 = (encM (k, c, l, t, o, e, w_, v, d0, d1, d2, d3, h)).length) := Hid.in (by rw [HN1.out, putB_yes _ HX.out])
  have E2 : Hid (M2 = (encM (nk, nc, nl, nt, no, ne, nw, nv, nd0, nd1, nd2, nd3, nh)).length) := Hid.in (by rw [HN2.out, putB_yes _ HY.out])
  have HLa := Hid.in (putB_yes _ HX.out ▸ HL1.out)
  have HLb := Hid.in (putB_yes _ HY.out ▸ HL2.out)
  clear HL1 HL2
  have HL1 := HLa
  have HL2 := HLb
  clear HLa HLb
  have x0 : w2.cell? ⟨w.heap.size, 0, none⟩ = some (.int .i64 k) := blk_cell HS2.out.bA rfl
  have x1 : w2.cell? ⟨w.heap.size, 1, none⟩ = some (.int .i64 c) := blk_cell HS2.out.bA rfl
  have x2 : w2.cell? ⟨w.heap.size, 2, none⟩ = some (.int .i64 l) := blk_cell HS2.out.bA rfl
  have x3 : w2.cell? ⟨w.heap.size, 3, none⟩ = some (.int .i64 t) := blk_cell HS2.out.bA rfl
  have x4 : w2.cell? ⟨w.heap.size, 4, none⟩ = some (.int .i64 o) := blk_cell HS2.out.bA rfl
  have x5 : w2.cell? ⟨w.heap.size, 5, none⟩ = some (.int .i64 e) := blk_cell HS2.out.bA rfl
  have x6 : w2.cell? ⟨w.heap.size, 6, none⟩ = some (.int .i64 w_) := blk_cell HS2.out.bA rfl
  have x7 : w2.cell? ⟨w.heap.size, 7, none⟩ = some (.int .u32 v) := blk_cell HS2.out.bA rfl
  have x8 : w2.cell? ⟨w.heap.size, 8, none⟩ = some (.int .u32 d0) := blk_cell HS2.out.bA rfl
  have x9 : w2.cell? ⟨w.heap.size, 9, none⟩ = some (.int .u32 d1) := blk_cell HS2.out.bA rfl
  have x10 : w2.cell? ⟨w.heap.size, 10, none⟩ = some (.int .u32 d2) := blk_cell HS2.out.bA rfl
  have x11 : w2.cell? ⟨w.heap.size, 11, none⟩ = some (.int .u32 d3) := blk_cell HS2.out.bA rfl
  have x12 : w2.cell? ⟨w.heap.size, 12, none⟩ = some (.bool h) := blk_cell HS2.out.bA rfl
  have hr := sRight_any (k, c, l, t, o, e, w_, v, d0, d1, d2, d3, h) w2 H32.out H64.out
  rw [HX.out] at hr
  simp only [mv] at hr
  go_wp2_with fail
  refine hr.mono ?_
  rintro r w3 ⟨rfl, hb⟩
  have HS3 := Hid.in (HS2.out.step hb)
  have HLa := Hid.in (HL1.out.step hb)
  have HLb := Hid.in (HL2.out.step hb)
  clear hr hb HL1 HL2 x0 x1 x2 x3 x4 x5 x6 x7 x8 x9 x10 x11 x12
  have HL1 := HLa
  have HL2 := HLb
  clear HLa HLb
  have x0 : w3.cell? ⟨w.heap.size + 1, 0, none⟩ = some (.int .i64 nk) := blk_cell HS3.out.bB rfl
  have x1 : w3.cell? ⟨w.heap.size + 1, 1, none⟩ = some (.int .i64 nc) := blk_cell HS3.out.bB rfl
  have x2 : w3.cell? ⟨w.heap.size + 1, 2, none⟩ = some (.int .i64 nl) := blk_cell HS3.out.bB rfl
  have x3 : w3.cell? ⟨w.heap.size + 1, 3, none⟩ = some (.int .i64 nt) := blk_cell HS3.out.bB rfl
  have x4 : w3.cell? ⟨w.heap.size + 1, 4, none⟩ = some (.int .i64 no) := blk_cell HS3.out.bB rfl
  have x5 : w3.cell? ⟨w.heap.size + 1, 5, none⟩ = some (.int .i64 ne) := blk_cell HS3.out.bB rfl
  have x6 : w3.cell? ⟨w.heap.size + 1, 6, none⟩ = some (.int .i64 nw) := blk_cell HS3.out.bB rfl
  have x7 : w3.cell? ⟨w.heap.size + 1, 7, none⟩ = some (.int .u32 nv) := blk_cell HS3.out.bB rfl
  have x8 : w3.cell? ⟨w.heap.size + 1, 8, none⟩ = some (.int .u32 nd0) := blk_cell HS3.out.bB rfl
  have x9 : w3.cell? ⟨w.heap.size + 1, 9, none⟩ = some (.int .u32 nd1) := blk_cell HS3.out.bB rfl
  have x10 : w3.cell? ⟨w.heap.size + 1, 10, none⟩ = some (.int .u32 nd2) := blk_cell HS3.out.bB rfl
  have x11 : w3.cell? ⟨w.heap.size + 1, 11, none⟩ = some (.int .u32 nd3) := blk_cell HS3.out.bB rfl
  have x12 : w3.cell? ⟨w.heap.size + 1, 12, none⟩ = some (.bool nh) := blk_cell HS3.out.bB rfl
  have hr := sRight_any (nk, nc, nl, nt, no, ne, nw, nv, nd0, nd1, nd2, nd3, nh) w3 G32.out G64.out
  rw [HY.out] at hr
  simp only [mv] at hr
  go_wp2_with fail
  refine hr.mono ?_
  rintro r w4 ⟨rfl, hb⟩
  have HS4 := Hid.in (HS3.out.step hb)
  have HLa := Hid.in (HL1.out.step hb)
  have HLb := Hid.in (HL2.out.step hb)
  clear hr hb HL1 HL2 x0 x1 x2 x3 x4 x5 x6 x7 x8 x9 x10 x11 x12
  have HL1 := HLa
  have HL2 := HLb
  clear HLa HLb
  have HO0 : Hid (Own (w4.alloc (.cells #[] 5)) w4.heap.size (some ⟨w4.heap.size, 0, none⟩) 0 0 []) := Hid.in (Own.lit0 w4 _ (Nat.le_refl _))
  have HB0 := Hid.in (below_alloc w4 (.cells #[] 5))
  have HLa := Hid.in (HL1.out.step HB0.out)
  have k1 : 0 + M1 ≤ 140737488355328 := by omega
  have k2 : M1 + M2 ≤ 140737488355328 := by omega
  have he := fun aa NN cc WW hE2 hN2 hL2 => sGet_any aa NN cc (encM (k, c, l, t, o, e, w_, v, d0, d1, d2, d3, h) ++ encM (nk, nc, nl, nt, no, ne, nw, nv, nd0, nd1, nd2, nd3, nh)) WW sa hE2 hN2 hL2 (both_byte _ _) (by rw [List.length_append, ← E1.out, ← E2.out]; omega)
  rw [tails _ _ H32.out ((rtB_iff _).1 HX.out) G32.out G64.out] at he
  simp only [mv, zero13] at he
  have HGE := Hid.in he
  clear he
  go_wp2_with (at_builtin; first
    | (refine wpList_concat rfl (.tmp 55) (.tmp 56) rfl w4.heap.size w4 (some ⟨w4.heap.size, 0, none⟩) a1 0 0 M1 c1 [] (encM (k, c, l, t, o, e, w_, v, d0, d1, d2, d3, h)) rfl HO0.out rfl E1.out HLa.out HB0.out (by simp) k1 ?_; intro a5 c5 w5 HO5 HB5; simp only [Nat.zero_add, List.nil_append] at HO5; have HLc := Hid.in (HL2.out.step HB5.out); have hs5 : w4.heap.size ≤ w5.heap.size := HB5.out.size)
    | (refine wpList_concat rfl (.tmp 57) (.tmp 58) rfl w4.heap.size w4 a5 a2 M1 c5 M2 c2 (encM (k, c, l, t, o, e, w_, v, d0, d1, d2, d3, h)) (encM (nk, nc, nl, nt, no, ne, nw, nv, nd0, nd1, nd2, nd3, nh)) rfl HO5.out rfl E2.out HLc.out HB5.out hs5 k2 ?_; intro a6 c6 w6 HO6 HB6))
  refine (HGE.out a6 (M1 + M2) c6 w6 (HE.out.below (bstep HS4.out.be (Nat.le_refl _) HB6.out)) (by rw [List.length_append, ← E1.out, ← E2.out]) HO6.out.lie).mono ?_
  rintro r w7 ⟨l7, rfl, hb7, _⟩
  have hb47 := bstep (bstep HB6.out (Nat.le_refl _) hb7) (Nat.le_refl _) (below_alloc w7 (.cells #[.int .i64 0, .int .i64 0, .int .i64 0, .int .i64 0, .int .i64 0, .int .i64 0, .int .i64 0, .int .u32 0, .int .u32 0, .int .u32 0, .int .u32 0, .int .u32 0, .bool false] 28))
  have HS8 := Hid.in (HS4.out.step hb47)
  have HLa := Hid.in (HL1.out.step hb47)
  have HLb := Hid.in (HL2.out.step hb47)
  clear hb7 hb47 HL1 HL2 HGE HO6 HO5 HB6 HB5 HO0 HB0 HLc
  try clear HS4
  have HL1 := HLa
  have HL2 := HLb
  clear HLa HLb
  go_upto_region 5 with fail
  generalize hX : w7.alloc (.cells #[.int .i64 0, .int .i64 0, .int .i64 0, .int .i64 0, .int .i64 0, .int .i64 0, .int .i64 0, .int .u32 0, .int .u32 0, .int .u32 0, .int .u32 0, .int .u32 0, .bool false] 28) = w8 at *
  clear hX
  go_wp2_with fail
  refine (kIs_flt opSGet 0 l7 5 (by omega) (by omega) w8 sa (HE.out.below HS8.out.be)).mono ?_
  rintro r w9 ⟨rfl, hb⟩
  have HS9 := Hid.in (HS8.out.step hb)
  have HLa := Hid.in (HL1.out.step hb)
  have HLb := Hid.in (HL2.out.step hb)
  clear hb HL1 HL2 HS8
  have HL1 := HLa
  have HL2 := HLb
  clear HLa HLb
  have x0 : w9.cell? ⟨w.heap.size, 0, none⟩ = some (.int .i64 k) := blk_cell HS9.out.bA rfl
  have x1 : w9.cell? ⟨w.heap.size, 1, none⟩ = some (.int .i64 c) := blk_cell HS9.out.bA rfl
  have x2 : w9.cell? ⟨w.heap.size, 2, none⟩ = some (.int .i64 l) := blk_cell HS9.out.bA rfl
  have x3 : w9.cell? ⟨w.heap.size, 3, none⟩ = some (.int .i64 t) := blk_cell HS9.out.bA rfl
  have x4 : w9.cell? ⟨w.heap.size, 4, none⟩ = some (.int .i64 o) := blk_cell HS9.out.bA rfl
  have x5 : w9.cell? ⟨w.heap.size, 5, none⟩ = some (.int .i64 e) := blk_cell HS9.out.bA rfl
  have x6 : w9.cell? ⟨w.heap.size, 6, none⟩ = some (.int .i64 w_) := blk_cell HS9.out.bA rfl
  have x7 : w9.cell? ⟨w.heap.size, 7, none⟩ = some (.int .u32 v) := blk_cell HS9.out.bA rfl
  have x8 : w9.cell? ⟨w.heap.size, 8, none⟩ = some (.int .u32 d0) := blk_cell HS9.out.bA rfl
  have x9 : w9.cell? ⟨w.heap.size, 9, none⟩ = some (.int .u32 d1) := blk_cell HS9.out.bA rfl
  have x10 : w9.cell? ⟨w.heap.size, 10, none⟩ = some (.int .u32 d2) := blk_cell HS9.out.bA rfl
  have x11 : w9.cell? ⟨w.heap.size, 11, none⟩ = some (.int .u32 d3) := blk_cell HS9.out.bA rfl
  have x12 : w9.cell? ⟨w.heap.size, 12, none⟩ = some (.bool h) := blk_cell HS9.out.bA rfl
  have y0 : w9.cell? ⟨w.heap.size + 1, 0, none⟩ = some (.int .i64 nk) := blk_cell HS9.out.bB rfl
  have y1 : w9.cell? ⟨w.heap.size + 1, 1, none⟩ = some (.int .i64 nc) := blk_cell HS9.out.bB rfl
  have y2 : w9.cell? ⟨w.heap.size + 1, 2, none⟩ = some (.int .i64 nl) := blk_cell HS9.out.bB rfl
  have y3 : w9.cell? ⟨w.heap.size + 1, 3, none⟩ = some (.int .i64 nt) := blk_cell HS9.out.bB rfl
  have y4 : w9.cell? ⟨w.heap.size + 1, 4, none⟩ = some (.int .i64 no) := blk_cell HS9.out.bB rfl
  have y5 : w9.cell? ⟨w.heap.size + 1, 5, none⟩ = some (.int .i64 ne) := blk_cell HS9.out.bB rfl
  have y6 : w9.cell? ⟨w.heap.size + 1, 6, none⟩ = some (.int .i64 nw) := blk_cell HS9.out.bB rfl
  have y7 : w9.cell? ⟨w.heap.size + 1, 7, none⟩ = some (.int .u32 nv) := blk_cell HS9.out.bB rfl
  have y8 : w9.cell? ⟨w.heap.size + 1, 8, none⟩ = some (.int .u32 nd0) := blk_cell HS9.out.bB rfl
  have y9 : w9.cell? ⟨w.heap.size + 1, 9, none⟩ = some (.int .u32 nd1) := blk_cell HS9.out.bB rfl
  have y10 : w9.cell? ⟨w.heap.size + 1, 10, none⟩ = some (.int .u32 nd2) := blk_cell HS9.out.bB rfl
  have y11 : w9.cell? ⟨w.heap.size + 1, 11, none⟩ = some (.int .u32 nd3) := blk_cell HS9.out.bB rfl
  have y12 : w9.cell? ⟨w.heap.size + 1, 12, none⟩ = some (.bool nh) := blk_cell HS9.out.bB rfl
  have hen := fun w => eq_msgIn' (k, c, l, t, o, e, w_, v, d0, d1, d2, d3, h) (nk, nc, nl, nt, no, ne, nw, nv, nd0, nd1, nd2, nd3, nh) w
  rw [HD.out] at hen
  simp only [mv] at hen
  have hle : (M1 : Int) ≤ (M2 : Int) := by have := HLE.out; have := E1.out; have := E2.out; omega
  have hsl := slice_toB a2 M2 c2 M1 (by have := HL2.out.1; have := E2.out; omega)
  go_wp2_with fail
  have HTK : Hid (M1 = ((encM (nk, nc, nl, nt, no, ne, nw, nv, nd0, nd1, nd2, nd3, nh)).take (encM (k, c, l, t, o, e, w_, v, d0, d1, d2, d3, h)).length).length) := Hid.in (by rw [List.length_take]; have := HLE.out; have := E1.out; omega)
  have HLt := Hid.in (HL2.out.take M1)
  rw [E1.out] at HLt
  have hsm := same_any a2 a1 M1 M1 c2 c1 ((encM (nk, nc, nl, nt, no, ne, nw, nv, nd0, nd1, nd2, nd3, nh)).take (encM (k, c, l, t, o, e, w_, v, d0, d1, d2, d3, h)).length) (encM (k, c, l, t, o, e, w_, v, d0, d1, d2, d3, h)) w9 HTK.out E1.out HLt.out HL1.out (by rw [← HTK.out]; omega)
  rw [not_head _ _ H32.out ((rtB_iff _).1 HX.out) G32.out ((rtB_iff _).1 HY.out) (fun e => by have h1 := HD.out; rw [e, eqB_self] at h1; cases h1)] at hsm
  refine hsm.mono ?_
  rintro r w10 ⟨rfl, hb⟩
  have HS10 := Hid.in (HS9.out.step hb)
  have HLa := Hid.in (HL1.out.step hb)
  have HLb := Hid.in (HL2.out.step hb)
  clear hsm hb HL1 HL2 HLt HS9 hsl
  have HL1 := HLa
  have HL2 := HLb
  clear HLa HLb
  clear x0 x1 x2 x3 x4 x5 x6 x7 x8 x9 x10 x11 x12
  clear y0 y1 y2 y3 y4 y5 y6 y7 y8 y9 y10 y11 y12
  clear hen
  have hg1 := fun WW hE2 hL2 => sGet_any a1 M1 c1 (encM (k, c, l, t, o, e, w_, v, d0, d1, d2, d3, h)) WW sa hE2 E1.out hL2 (encM_byte _) (by rw [← E1.out]; omega)
  rw [gotM_enc _ H32.out ((rtB_iff _).1 HX.out)] at hg1
  simp only [mv, gErr_zero] at hg1
  have hg2 := fun WW hE2 hL2 => sGet_any a2 M2 c2 (encM (nk, nc, nl, nt, no, ne, nw, nv, nd0, nd1, nd2, nd3, nh)) WW sa hE2 E2.out hL2 (encM_byte _) (by rw [← E2.out]; omega)
  rw [gotM_enc _ G32.out ((rtB_iff _).1 HY.out)] at hg2
  simp only [mv, gErr_zero] at hg2
  have HG1 := Hid.in hg1
  have HG2 := Hid.in hg2
  clear hg1 hg2
  go_wp2_with fail
  refine (HG1.out _ (HE.out.below HS10.out.be) HL1.out).mono ?_
  rintro r w11 ⟨_, rfl, hb, _⟩
  have hb2 := bstep hb (Nat.le_refl _) (below_alloc w11 (.cells #[.int .i64 k, .int .i64 c, .int .i64 l, .int .i64 t, .int .i64 o, .int .i64 e, .int .i64 w_, .int .u32 v, .int .u32 d0, .int .u32 d1, .int .u32 d2, .int .u32 d3, .bool h] 28))
  have HS12 := Hid.in (HS10.out.step hb2)
  have HLb := Hid.in (HL2.out.step hb2)
  have HX12 : Hid ((w11.alloc (.cells #[.int .i64 k, .int .i64 c, .int .i64 l, .int .i64 t, .int .i64 o, .int .i64 e, .int .i64 w_, .int .u32 v, .int .u32 d0, .int .u32 d1, .int .u32 d2, .int .u32 d3, .bool h] 28)).heap[w11.heap.size]? = some (.cells #[.int .i64 k, .int .i64 c, .int .i64 l, .int .i64 t, .int .i64 o, .int .i64 e, .int .i64 w_, .int .u32 v, .int .u32 d0, .int .u32 d1, .int .u32 d2, .int .u32 d3, .bool h] 28 (0, 0))) := Hid.in (heap_alloc_new _ _)
  clear hb hb2 HL1 HL2 HG1 HS10
  have HL2 := HLb
  clear HLb
  go_upto_region 8 with fail
  generalize hX : w11.alloc (.cells #[.int .i64 k, .int .i64 c, .int .i64 l, .int .i64 t, .int .i64 o, .int .i64 e, .int .i64 w_, .int .u32 v, .int .u32 d0, .int .u32 d1, .int .u32 d2, .int .u32 d3, .bool h] 28) = w12 at *
  clear hX
  go_wp2_with fail
  refine (HG2.out _ (HE.out.below HS12.out.be) HL2.out).mono ?_
  rintro r w13 ⟨_, rfl, hb, _⟩
  have hb2 := bstep hb (Nat.le_refl _) (below_alloc w13 (.cells #[.int .i64 nk, .int .i64 nc, .int .i64 nl, .int .i64 nt, .int .i64 no, .int .i64 ne, .int .i64 nw, .int .u32 nv, .int .u32 nd0, .int .u32 nd1, .int .u32 nd2, .int .u32 nd3, .bool nh] 28))
  have HS14 := Hid.in (HS12.out.step hb2)
  have HX14 := Hid.in (blk_step HX12.out hb2)
  have HY14 : Hid ((w13.alloc (.cells #[.int .i64 nk, .int .i64 nc, .int .i64 nl, .int .i64 nt, .int .i64 no, .int .i64 ne, .int .i64 nw, .int .u32 nv, .int .u32 nd0, .int .u32 nd1, .int .u32 nd2, .int .u32 nd3, .bool nh] 28)).heap[w13.heap.size]? = some (.cells #[.int .i64 nk, .int .i64 nc, .int .i64 nl, .int .i64 nt, .int .i64 no, .int .i64 ne, .int .i64 nw, .int .u32 nv, .int .u32 nd0, .int .u32 nd1, .int .u32 nd2, .int .u32 nd3, .bool nh] 28 (0, 0))) := Hid.in (heap_alloc_new _ _)
  clear hb hb2 HL2 HG2 HS12 HX12
  go_upto_region 9 with fail
  generalize hX : w13.alloc (.cells #[.int .i64 nk, .int .i64 nc, .int .i64 nl, .int .i64 nt, .int .i64 no, .int .i64 ne, .int .i64 nw, .int .u32 nv, .int .u32 nd0, .int .u32 nd1, .int .u32 nd2, .int .u32 nd3, .bool nh] 28) = w14 at *
  clear hX
  have x0 : w14.cell? ⟨w.heap.size, 0, none⟩ = some (.int .i64 k) := blk_cell HS14.out.bA rfl
  have x1 : w14.cell? ⟨w.heap.size, 1, none⟩ = some (.int .i64 c) := blk_cell HS14.out.bA rfl
  have x2 : w14.cell? ⟨w.heap.size, 2, none⟩ = some (.int .i64 l) := blk_cell HS14.out.bA rfl
  have x3 : w14.cell? ⟨w.heap.size, 3, none⟩ = some (.int .i64 t) := blk_cell HS14.out.bA rfl
  have x4 : w14.cell? ⟨w.heap.size, 4, none⟩ = some (.int .i64 o) := blk_cell HS14.out.bA rfl
  have x5 : w14.cell? ⟨w.heap.size, 5, none⟩ = some (.int .i64 e) := blk_cell HS14.out.bA rfl
  have x6 : w14.cell? ⟨w.heap.size, 6, none⟩ = some (.int .i64 w_) := blk_cell HS14.out.bA rfl
  have x7 : w14.cell? ⟨w.heap.size, 7, none⟩ = some (.int .u32 v) := blk_cell HS14.out.bA rfl
  have x8 : w14.cell? ⟨w.heap.size, 8, none⟩ = some (.int .u32 d0) := blk_cell HS14.out.bA rfl
  have x9 : w14.cell? ⟨w.heap.size, 9, none⟩ = some (.int .u32 d1) := blk_cell HS14.out.bA rfl
  have x10 : w14.cell? ⟨w.heap.size, 10, none⟩ = some (.int .u32 d2) := blk_cell HS14.out.bA rfl
  have x11 : w14.cell? ⟨w.heap.size, 11, none⟩ = some (.int .u32 d3) := blk_cell HS14.out.bA rfl
  have x12 : w14.cell? ⟨w.heap.size, 12, none⟩ = some (.bool h) := blk_cell HS14.out.bA rfl
  have y0 : w14.cell? ⟨w.heap.size + 1, 0, none⟩ = some (.int .i64 nk) := blk_cell HS14.out.bB rfl
  have y1 : w14.cell? ⟨w.heap.size + 1, 1, none⟩ = some (.int .i64 nc) := blk_cell HS14.out.bB rfl
  have y2 : w14.cell? ⟨w.heap.size + 1, 2, none⟩ = some (.int .i64 nl) := blk_cell HS14.out.bB rfl
  have y3 : w14.cell? ⟨w.heap.size + 1, 3, none⟩ = some (.int .i64 nt) := blk_cell HS14.out.bB rfl
  have y4 : w14.cell? ⟨w.heap.size + 1, 4, none⟩ = some (.int .i64 no) := blk_cell HS14.out.bB rfl
  have y5 : w14.cell? ⟨w.heap.size + 1, 5, none⟩ = some (.int .i64 ne) := blk_cell HS14.out.bB rfl
  have y6 : w14.cell? ⟨w.heap.size + 1, 6, none⟩ = some (.int .i64 nw) := blk_cell HS14.out.bB rfl
  have y7 : w14.cell? ⟨w.heap.size + 1, 7, none⟩ = some (.int .u32 nv) := blk_cell HS14.out.bB rfl
  have y8 : w14.cell? ⟨w.heap.size + 1, 8, none⟩ = some (.int .u32 nd0) := blk_cell HS14.out.bB rfl
  have y9 : w14.cell? ⟨w.heap.size + 1, 9, none⟩ = some (.int .u32 nd1) := blk_cell HS14.out.bB rfl
  have y10 : w14.cell? ⟨w.heap.size + 1, 10, none⟩ = some (.int .u32 nd2) := blk_cell HS14.out.bB rfl
  have y11 : w14.cell? ⟨w.heap.size + 1, 11, none⟩ = some (.int .u32 nd3) := blk_cell HS14.out.bB rfl
  have y12 : w14.cell? ⟨w.heap.size + 1, 12, none⟩ = some (.bool nh) := blk_cell HS14.out.bB rfl
  have u0 : w14.cell? ⟨w11.heap.size, 0, none⟩ = some (.int .i64 k) := blk_cell HX14.out rfl
  have u1 : w14.cell? ⟨w11.heap.size, 1, none⟩ = some (.int .i64 c) := blk_cell HX14.out rfl
  have u2 : w14.cell? ⟨w11.heap.size, 2, none⟩ = some (.int .i64 l) := blk_cell HX14.out rfl
  have u3 : w14.cell? ⟨w11.heap.size, 3, none⟩ = some (.int .i64 t) := blk_cell HX14.out rfl
  have u4 : w14.cell? ⟨w11.heap.size, 4, none⟩ = some (.int .i64 o) := blk_cell HX14.out rfl
  have u5 : w14.cell? ⟨w11.heap.size, 5, none⟩ = some (.int .i64 e) := blk_cell HX14.out rfl
  have u6 : w14.cell? ⟨w11.heap.size, 6, none⟩ = some (.int .i64 w_) := blk_cell HX14.out rfl
  have u7 : w14.cell? ⟨w11.heap.size, 7, none⟩ = some (.int .u32 v) := blk_cell HX14.out rfl
  have u8 : w14.cell? ⟨w11.heap.size, 8, none⟩ = some (.int .u32 d0) := blk_cell HX14.out rfl
  have u9 : w14.cell? ⟨w11.heap.size, 9, none⟩ = some (.int .u32 d1) := blk_cell HX14.out rfl
  have u10 : w14.cell? ⟨w11.heap.size, 10, none⟩ = some (.int .u32 d2) := blk_cell HX14.out rfl
  have u11 : w14.cell? ⟨w11.heap.size, 11, none⟩ = some (.int .u32 d3) := blk_cell HX14.out rfl
  have u12 : w14.cell? ⟨w11.heap.size, 12, none⟩ = some (.bool h) := blk_cell HX14.out rfl
  have z0 : w14.cell? ⟨w13.heap.size, 0, none⟩ = some (.int .i64 nk) := blk_cell HY14.out rfl
  have z1 : w14.cell? ⟨w13.heap.size, 1, none⟩ = some (.int .i64 nc) := blk_cell HY14.out rfl
  have z2 : w14.cell? ⟨w13.heap.size, 2, none⟩ = some (.int .i64 nl) := blk_cell HY14.out rfl
  have z3 : w14.cell? ⟨w13.heap.size, 3, none⟩ = some (.int .i64 nt) := blk_cell HY14.out rfl
  have z4 : w14.cell? ⟨w13.heap.size, 4, none⟩ = some (.int .i64 no) := blk_cell HY14.out rfl
  have z5 : w14.cell? ⟨w13.heap.size, 5, none⟩ = some (.int .i64 ne) := blk_cell HY14.out rfl
  have z6 : w14.cell? ⟨w13.heap.size, 6, none⟩ = some (.int .i64 nw) := blk_cell HY14.out rfl
  have z7 : w14.cell? ⟨w13.heap.size, 7, none⟩ = some (.int .u32 nv) := blk_cell HY14.out rfl
  have z8 : w14.cell? ⟨w13.heap.size, 8, none⟩ = some (.int .u32 nd0) := blk_cell HY14.out rfl
  have z9 : w14.cell? ⟨w13.heap.size, 9, none⟩ = some (.int .u32 nd1) := blk_cell HY14.out rfl
  have z10 : w14.cell? ⟨w13.heap.size, 10, none⟩ = some (.int .u32 nd2) := blk_cell HY14.out rfl
  have z11 : w14.cell? ⟨w13.heap.size, 11, none⟩ = some (.int .u32 nd3) := blk_cell HY14.out rfl
  have z12 : w14.cell? ⟨w13.heap.size, 12, none⟩ = some (.bool nh) := blk_cell HY14.out rfl
  have he1 := fun w => eq_msgIn' (k, c, l, t, o, e, w_, v, d0, d1, d2, d3, h) (k, c, l, t, o, e, w_, v, d0, d1, d2, d3, h) w
  rw [eqB_self] at he1
  simp only [mv] at he1
  have he2 := fun w => eq_msgIn' (nk, nc, nl, nt, no, ne, nw, nv, nd0, nd1, nd2, nd3, nh) (nk, nc, nl, nt, no, ne, nw, nv, nd0, nd1, nd2, nd3, nh) w
  rw [eqB_self] at he2
  simp only [mv] at he2
  go_wp2_with fail
  refine (msgRuns_any _ sa (HE.out.below HS14.out.be)).mono ?_
  rintro r w15 ⟨rfl, hb⟩
  have HS15 := Hid.in (HS14.out.step hb)
  clear hb
  go_wp2
  go_ret
  exact ⟨rfl, HS15.out.be⟩

theorem msgApart_any (w : World) (sa : Nat → Addr) (hE : Env10 w sa) (m : M13) (h32 : M32 m) (h64 : M64 m) (n : M13) (g32 : M32 n) (g64 : M64 n) :
    Calls Tryd.prog 8 #[.agg (mv m), .agg (mv n)] w fun r w' => r = .returned (.bool true) ∧ Below w.heap.size w w' := by
  obtain ⟨k, c, l, t, o, e, w_, v, d0, d1, d2, d3, h⟩ := m
  obtain ⟨nk, nc, nl, nt, no, ne, nw, nv, nd0, nd1, nd2, nd3, nh⟩ := n
  rcases hx : rtB (k, c, l, t, o, e, w_, v, d0, d1, d2, d3, h) with _ | _
  · rcases hy : rtB (nk, nc, nl, nt, no, ne, nw, nv, nd0, nd1, nd2, nd3, nh) with _ | _
    · exact msgApart_00 w sa hE k c l t o e w_ v d0 d1 d2 d3 h nk nc nl nt no ne nw nv nd0 nd1 nd2 nd3 nh h32 h64 g32 g64 hx hy
    · exact msgApart_01 w sa hE k c l t o e w_ v d0 d1 d2 d3 h nk nc nl nt no ne nw nv nd0 nd1 nd2 nd3 nh h32 h64 g32 g64 hx hy
  · rcases hy : rtB (nk, nc, nl, nt, no, ne, nw, nv, nd0, nd1, nd2, nd3, nh) with _ | _
    · exact msgApart_10 w sa hE k c l t o e w_ v d0 d1 d2 d3 h nk nc nl nt no ne nw nv nd0 nd1 nd2 nd3 nh h32 h64 g32 g64 hx hy
    · rcases hd : eqB (k, c, l, t, o, e, w_, v, d0, d1, d2, d3, h) (nk, nc, nl, nt, no, ne, nw, nv, nd0, nd1, nd2, nd3, nh) with _ | _
      · by_cases hl : (encM (k, c, l, t, o, e, w_, v, d0, d1, d2, d3, h)).length ≤ (encM (nk, nc, nl, nt, no, ne, nw, nv, nd0, nd1, nd2, nd3, nh)).length
        · exact msgApart_short w sa hE k c l t o e w_ v d0 d1 d2 d3 h nk nc nl nt no ne nw nv nd0 nd1 nd2 nd3 nh h32 h64 g32 g64 hx hy hd hl
        · exact msgApart_long w sa hE k c l t o e w_ v d0 d1 d2 d3 h nk nc nl nt no ne nw nv nd0 nd1 nd2 nd3 nh h32 h64 g32 g64 hx hy hd hl
      · exact msgApart_eq w sa hE k c l t o e w_ v d0 d1 d2 d3 h nk nc nl nt no ne nw nv nd0 nd1 nd2 nd3 nh h32 h64 g32 g64 hx hy hd

end Go.Proofs.YtmlmiejanfcopaaDoor

/- DERIVED of the program: prog.get by its contract. Own work. -/
import Derived.Test.YtbanihjjeicdaaaDoorPgC
namespace Go.Proofs.YtbanihjjeicdaaaDoor
open Go.RowKit Go.Extern.Stop Go.Stop Go.Extern

theorem results_cell1 {fn : Func} {p : Tmp} {ty : TypeId} (h : fn.results = #[.cell p ty]) (tmps : Array Value) (P : Program) (w : World) :
    (results fn tmps).run P w = ((asAddr (tmps.getD p undef)).run P w).andThen fun a w₁ => (loadVar ty a).run P w₁ := by
  simp only [results, h]
  simp [Sem.run_bind, Result.andThen]

theorem grown_own {w w' : World} {row : Option Nat} {g i : Nat} (v : Value) (h : w.grownBy w' row) (hg : w.heap.size ≤ g) : w.grownBy (w'.setCell ⟨g, i, none⟩ v) row :=
  ⟨h.os, h.tape, h.output, by simpa [World.setCell] using h.size, fun k hk hn => (Below.heap_setCell _ _ _ k (by show k ≠ g; omega)).trans (h.block k hk hn)⟩

/-- In the midst of get: the reader, and get's own three blocks. -/
structure GS (w0 w : World) (sa : Nat → Addr) (ra rz q : Nat) (bs : List Nat) (at_ c A g f : Nat) (oc_ fc : Array Value) (wr : World) : Prop where
  rd : Rd wr sa ra rz q bs at_ c
  gr : w.grownBy wr (some q)
  be : Below w0.heap.size w0 wr
  bA : wr.heap[A]? = some (.cells #[.int .i64 0, .int .i64 0, .int .u32 0, .int .u32 0] 29 (0, 0))
  bg : wr.heap[g]? = some (.cells oc_ 29 (0, 0))
  bf : wr.heap[f]? = some (.cells fc 67 (0, 0))
  od : w0.heap.size ≤ q ∧ q < w.heap.size ∧ rz ≤ w.heap.size ∧ w.heap.size ≤ A ∧ A < g ∧ g < f

theorem GS.in {w0 w wr w' : World} {sa : Nat → Addr} {ra rz q at_ c at2 c2 A g f : Nat} {bs : List Nat} {oc_ fc : Array Value} (h : GS w0 w sa ra rz q bs at_ c A g f oc_ fc wr) (hR : Rd w' sa ra rz q bs at2 c2) (hg : wr.grownBy w' (some q)) : GS w0 w sa ra rz q bs at2 c2 A g f oc_ fc w' := by
  obtain ⟨h1, h2, h3, h4, h5, h6⟩ := h.od
  have bl : ∀ (k : Nat) (ob : Obj), w.heap.size ≤ k → wr.heap[k]? = some ob → w'.heap[k]? = some ob := fun k ob hk hb => (hg.block k (blk_lt hb) (by intro e; cases e; omega)).trans hb
  exact ⟨hR, grown_trans h.gr hg, wrote h.be hg (Nat.le_refl _) h1, bl _ _ h4 h.bA, bl _ _ (by omega) h.bg, bl _ _ (by omega) h.bf, h.od⟩

theorem GS.set {w0 w wr : World} {sa : Nat → Addr} {ra rz q at_ c A g f : Nat} {bs : List Nat} {oc_ fc : Array Value} (h : GS w0 w sa ra rz q bs at_ c A g f oc_ fc wr) (i : Nat) (v : Value) : GS w0 w sa ra rz q bs at_ c A g f (oc_.setIfInBounds i v) fc (wr.setCell ⟨g, i, none⟩ v) := by
  obtain ⟨h1, h2, h3, h4, h5, h6⟩ := h.od
  have bl : ∀ (k : Nat) (ob : Obj), k ≠ g → wr.heap[k]? = some ob → (wr.setCell ⟨g, i, none⟩ v).heap[k]? = some ob := fun k ob hk hb => (Below.heap_setCell _ _ _ k hk).trans hb
  refine ⟨h.rd.kept (grown_set wr g i v) (fun k hk => by cases hk; omega), grown_own v h.gr (by omega), h.be.setCell (p := ⟨g, i, none⟩) (by show w0.heap.size ≤ g; omega) v, bl _ _ (by omega) h.bA, blk_set v h.bg, bl _ _ (by omega) h.bf, h.od⟩

theorem rg_set {w wr : World} {sa : Nat → Addr} {ra rz q at_ c A : Nat} {bs : List Nat} (h : Rd wr sa ra rz q bs at_ c ∧ w.grownBy wr (some q)) (hA : w.heap.size ≤ A) (hz : rz ≤ w.heap.size) (i : Nat) (v : Value) : Rd (wr.setCell ⟨A, i, none⟩ v) sa ra rz q bs at_ c ∧ w.grownBy (wr.setCell ⟨A, i, none⟩ v) (some q) :=
  ⟨h.1.kept (grown_set wr A i v) (fun k hk => by cases hk; omega), grown_own v h.2 hA⟩
theorem rg_set4 {w wr : World} {sa : Nat → Addr} {ra rz q at_ c A : Nat} {bs : List Nat} (h : Rd wr sa ra rz q bs at_ c ∧ w.grownBy wr (some q)) (hA : w.heap.size ≤ A) (hz : rz ≤ w.heap.size) (v0 v1 v2 v3 : Value) : Rd ((((wr.setCell ⟨A, 0, none⟩ v0).setCell ⟨A, 1, none⟩ v1).setCell ⟨A, 2, none⟩ v2).setCell ⟨A, 3, none⟩ v3) sa ra rz q bs at_ c ∧ w.grownBy ((((wr.setCell ⟨A, 0, none⟩ v0).setCell ⟨A, 1, none⟩ v1).setCell ⟨A, 2, none⟩ v2).setCell ⟨A, 3, none⟩ v3) (some q) :=
  rg_set (rg_set (rg_set (rg_set h hA hz 0 v0) hA hz 1 v1) hA hz 2 v2) hA hz 3 v3
theorem rg_alloc {w wr : World} {sa : Nat → Addr} {ra rz q at_ c : Nat} {bs : List Nat} (h : Rd wr sa ra rz q bs at_ c ∧ w.grownBy wr (some q)) (o : Obj) : Rd (wr.alloc o) sa ra rz q bs at_ c ∧ w.grownBy (wr.alloc o) (some q) :=
  ⟨h.1.step (below_alloc _ _), grown_trans h.2 (grown_of_below (below_alloc _ _) _)⟩

set_option maxRecDepth 20000 in
theorem gget_3 (w0 w : World) (sa : Nat → Addr) (hE : Env10 w0 sa) (hb0 : Below w0.heap.size w0 w) (ra rz q at_ c : Nat) (bs : List Nat) (hR : Rd w sa ra rz q bs at_ c) (hq : w0.heap.size ≤ q) (hz : rz ≤ w.heap.size) (last : Int) (a v o : Int) (c1 p1 c2 p2 c3 p3 c4 p4 : Nat) (h1 : inS bs 1 4 at_ c = (c1, 3, p1)) (h2 : inS bs 0 last p1 c1 = (c2, a, p2)) (h3 : inS bs 0 4294967295 p2 c2 = (c3, v, p3)) (h4 : inS bs 0 4294967295 p3 c3 = (c4, o, p4)) (v0 : 0 ≤ v) (v1 : v < 4294967296) (o0 : 0 ≤ o) (o1 : o < 4294967296) :
    Calls Tryd.prog 38 #[.pointer (some ⟨q, 0, none⟩), .int .i64 last] w fun r w' => r = .returned (.agg #[.int .i64 3, .int .i64 a, .int .u32 v, .int .u32 o]) ∧ Rd w' sa ra rz q bs p4 c4 ∧ w.grownBy w' (some q) := by
  have HE := Hid.in hE
  have HB0 := Hid.in hb0
  have HR := Hid.in hR
  have HQ := Hid.in hq
  have HZ := Hid.in hz
  have H1 := Hid.in h1
  have H2 := Hid.in h2
  have H3 := Hid.in h3
  have H4 := Hid.in h4
  clear hE hb0 hR hq hz h1 h2 h3 h4
  go_enter Tryd.func38, Tryd.ntmps38
  go_wp2_with fail
  refine (in_any _ sa (HE.out.below (bstep HB0.out (Nat.le_refl _) (below_alloc _ _))) ra rz q at_ c bs (HR.out.step (below_alloc _ _)) 1 4).mono ?_
  rw [H1.out]
  rintro r w1 ⟨rfl, hR1, hg1⟩
  have HA1 : Hid (w1.heap[w.heap.size]? = some (.cells #[.int .i64 0, .int .i64 0, .int .u32 0, .int .u32 0] 29 (0, 0))) := Hid.in ((hg1.block _ (by simp) (by intro e; have := HR.out.lt; cases e; omega)).trans (heap_alloc_new _ _))
  have HG1 : Hid (w.grownBy w1 (some q)) := Hid.in (grown_trans (grown_of_below (below_alloc _ _) _) hg1)
  have HB1 : Hid (Below w0.heap.size w0 w1) := Hid.in (wrote (bstep HB0.out (Nat.le_refl _) (below_alloc _ _)) hg1 (Nat.le_refl _) HQ.out)
  have HR1 := Hid.in hR1
  clear hR1 hg1
  go_wp2_with fail
  refine (named_3 _).mono ?_
  rintro r w2 ⟨rfl, hb2⟩
  have hlt2 : w1.heap.size < w2.heap.size := by have := hb2.size; simp at this; omega
  have HLT2 := Hid.in hlt2
  clear hlt2
  have HS : Hid (GS w0 w sa ra rz q bs p1 c1 w.heap.size w1.heap.size w2.heap.size #[.int .i64 3, .int .i64 0, .int .u32 0, .int .u32 0] #[.bool true, .bool true, .bool true] (w2.alloc (.cells #[.bool true, .bool true, .bool true] 67))) := by
    have b12 := bstep (below_alloc w1 _) (Nat.le_refl _) hb2
    have b13 := bstep b12 (Nat.le_refl _) (below_alloc w2 (.cells #[.bool true, .bool true, .bool true] 67))
    exact Hid.in ⟨HR1.out.step b13, grown_trans HG1.out (grown_of_below b13 _), bstep HB1.out (by have := HB1.out.size; omega) b13, blk_step HA1.out b13, blk_step (blk_step (heap_alloc_new _ _) hb2) (below_alloc _ _), heap_alloc_new _ _, ⟨HQ.out, HR.out.lt, HZ.out, Nat.le_refl _, blk_lt HA1.out, HLT2.out⟩⟩
  have H2R : Hid (Rd w2 sa ra rz q bs p1 c1 ∧ w.grownBy w2 (some q)) := by
    have b12 := bstep (below_alloc w1 _) (Nat.le_refl _) hb2
    exact Hid.in ⟨HR1.out.step b12, grown_trans HG1.out (grown_of_below b12 _)⟩
  clear hb2
  go_wp2_with fail
  refine (in_any _ sa (HE.out.below HS.out.be) ra rz q p1 c1 bs HS.out.rd 0 last).mono ?_
  rw [H2.out]
  rintro r w3 ⟨rfl, hR3, hg3⟩
  have T3 := Hid.in (HS.out.in hR3 hg3)
  clear hR3 hg3
  have z3 : w3.cell? ⟨w1.heap.size, 1, none⟩ = some (.int .i64 0) := blk_cell T3.out.bg rfl
  have f3 : w3.frozen? ⟨w1.heap.size, 1, none⟩ = false := blk_free T3.out.bg
  have S3 := Hid.in (T3.out.set 1 (.int .i64 a))
  go_upto_region 5 with fail
  generalize hX3 : w3.setCell ⟨w1.heap.size, 1, none⟩ (.int .i64 a) = X3 at *
  clear z3 f3 hX3
  have yv : X3.cell? ⟨w2.heap.size, 1, none⟩ = some (.bool true) := blk_cell S3.out.bf rfl
  go_wp2_with fail
  refine (in_any _ sa (HE.out.below S3.out.be) ra rz q p2 c2 bs S3.out.rd 0 4294967295).mono ?_
  rw [H3.out]
  rintro r w4 ⟨rfl, hR4, hg4⟩
  have T4 := Hid.in (S3.out.in hR4 hg4)
  clear hR4 hg4
  have z4 : w4.cell? ⟨w1.heap.size, 2, none⟩ = some (.int .u32 0) := blk_cell T4.out.bg rfl
  have f4 : w4.frozen? ⟨w1.heap.size, 2, none⟩ = false := blk_free T4.out.bg
  have S4 := Hid.in (T4.out.set 2 (.int .u32 v))
  go_upto_region 7 with fail
  generalize hX4 : w4.setCell ⟨w1.heap.size, 2, none⟩ (.int .u32 v) = X4 at *
  clear z4 f4 hX4 yv
  have yo : X4.cell? ⟨w2.heap.size, 2, none⟩ = some (.bool true) := blk_cell S4.out.bf rfl
  go_wp2_with fail
  refine (in_any _ sa (HE.out.below S4.out.be) ra rz q p3 c3 bs S4.out.rd 0 4294967295).mono ?_
  rw [H4.out]
  rintro r w5 ⟨rfl, hR5, hg5⟩
  have T5 := Hid.in (S4.out.in hR5 hg5)
  clear hR5 hg5
  have z5 : w5.cell? ⟨w1.heap.size, 3, none⟩ = some (.int .u32 0) := blk_cell T5.out.bg rfl
  have f5 : w5.frozen? ⟨w1.heap.size, 3, none⟩ = false := blk_free T5.out.bg
  have S5 := Hid.in (T5.out.set 3 (.int .u32 o))
  go_upto_region 9 with fail
  generalize hX5 : w5.setCell ⟨w1.heap.size, 3, none⟩ (.int .u32 o) = X5 at *
  clear z5 f5 hX5 yo
  have u0 : X5.cell? ⟨w1.heap.size, 0, none⟩ = some (.int .i64 3) := blk_cell S5.out.bg rfl
  have u1 : X5.cell? ⟨w1.heap.size, 1, none⟩ = some (.int .i64 a) := blk_cell S5.out.bg rfl
  have u2 : X5.cell? ⟨w1.heap.size, 2, none⟩ = some (.int .u32 v) := blk_cell S5.out.bg rfl
  have u3 : X5.cell? ⟨w1.heap.size, 3, none⟩ = some (.int .u32 o) := blk_cell S5.out.bg rfl
  have t0 : X5.cell? ⟨w.heap.size, 0, none⟩ = some (.int .i64 0) := blk_cell S5.out.bA rfl
  have r0 : X5.frozen? ⟨w.heap.size, 0, none⟩ = false := blk_free S5.out.bA
  have t1 : X5.cell? ⟨w.heap.size, 1, none⟩ = some (.int .i64 0) := blk_cell S5.out.bA rfl
  have r1 : X5.frozen? ⟨w.heap.size, 1, none⟩ = false := blk_free S5.out.bA
  have t2 : X5.cell? ⟨w.heap.size, 2, none⟩ = some (.int .u32 0) := blk_cell S5.out.bA rfl
  have r2 : X5.frozen? ⟨w.heap.size, 2, none⟩ = false := blk_free S5.out.bA
  have t3 : X5.cell? ⟨w.heap.size, 3, none⟩ = some (.int .u32 0) := blk_cell S5.out.bA rfl
  have r3 : X5.frozen? ⟨w.heap.size, 3, none⟩ = false := blk_free S5.out.bA
  go_wp2
  refine bodyPost_ret (v := .agg #[.int .i64 3, .int .i64 a, .int .u32 v, .int .u32 o]) ?_ rfl ⟨rfl, rg_set4 ⟨S5.out.rd, S5.out.gr⟩ (Nat.le_refl _) HZ.out _ _ _ _⟩
  rw [results_cell1 rfl]
  go_simp

set_option maxRecDepth 20000 in
theorem gget_2 (w0 w : World) (sa : Nat → Addr) (hE : Env10 w0 sa) (hb0 : Below w0.heap.size w0 w) (ra rz q at_ c : Nat) (bs : List Nat) (hR : Rd w sa ra rz q bs at_ c) (hq : w0.heap.size ≤ q) (hz : rz ≤ w.heap.size) (last : Int) (a v : Int) (c1 p1 c2 p2 c3 p3 : Nat) (h1 : inS bs 1 4 at_ c = (c1, 2, p1)) (h2 : inS bs 0 last p1 c1 = (c2, a, p2)) (h3 : inS bs 0 4294967295 p2 c2 = (c3, v, p3)) (v0 : 0 ≤ v) (v1 : v < 4294967296) :
    Calls Tryd.prog 38 #[.pointer (some ⟨q, 0, none⟩), .int .i64 last] w fun r w' => r = .returned (.agg #[.int .i64 2, .int .i64 a, .int .u32 v, .int .u32 0]) ∧ Rd w' sa ra rz q bs p3 c3 ∧ w.grownBy w' (some q) := by
  have HE := Hid.in hE
  have HB0 := Hid.in hb0
  have HR := Hid.in hR
  have HQ := Hid.in hq
  have HZ := Hid.in hz
  have H1 := Hid.in h1
  have H2 := Hid.in h2
  have H3 := Hid.in h3
  clear hE hb0 hR hq hz h1 h2 h3
  go_enter Tryd.func38, Tryd.ntmps38
  go_wp2_with fail
  refine (in_any _ sa (HE.out.below (bstep HB0.out (Nat.le_refl _) (below_alloc _ _))) ra rz q at_ c bs (HR.out.step (below_alloc _ _)) 1 4).mono ?_
  rw [H1.out]
  rintro r w1 ⟨rfl, hR1, hg1⟩
  have HA1 : Hid (w1.heap[w.heap.size]? = some (.cells #[.int .i64 0, .int .i64 0, .int .u32 0, .int .u32 0] 29 (0, 0))) := Hid.in ((hg1.block _ (by simp) (by intro e; have := HR.out.lt; cases e; omega)).trans (heap_alloc_new _ _))
  have HG1 : Hid (w.grownBy w1 (some q)) := Hid.in (grown_trans (grown_of_below (below_alloc _ _) _) hg1)
  have HB1 : Hid (Below w0.heap.size w0 w1) := Hid.in (wrote (bstep HB0.out (Nat.le_refl _) (below_alloc _ _)) hg1 (Nat.le_refl _) HQ.out)
  have HR1 := Hid.in hR1
  clear hR1 hg1
  go_wp2_with fail
  refine (named_2 _).mono ?_
  rintro r w2 ⟨rfl, hb2⟩
  have hlt2 : w1.heap.size < w2.heap.size := by have := hb2.size; simp at this; omega
  have HLT2 := Hid.in hlt2
  clear hlt2
  have HS : Hid (GS w0 w sa ra rz q bs p1 c1 w.heap.size w1.heap.size w2.heap.size #[.int .i64 2, .int .i64 0, .int .u32 0, .int .u32 0] #[.bool true, .bool true, .bool false] (w2.alloc (.cells #[.bool true, .bool true, .bool false] 67))) := by
    have b12 := bstep (below_alloc w1 _) (Nat.le_refl _) hb2
    have b13 := bstep b12 (Nat.le_refl _) (below_alloc w2 (.cells #[.bool true, .bool true, .bool false] 67))
    exact Hid.in ⟨HR1.out.step b13, grown_trans HG1.out (grown_of_below b13 _), bstep HB1.out (by have := HB1.out.size; omega) b13, blk_step HA1.out b13, blk_step (blk_step (heap_alloc_new _ _) hb2) (below_alloc _ _), heap_alloc_new _ _, ⟨HQ.out, HR.out.lt, HZ.out, Nat.le_refl _, blk_lt HA1.out, HLT2.out⟩⟩
  have H2R : Hid (Rd w2 sa ra rz q bs p1 c1 ∧ w.grownBy w2 (some q)) := by
    have b12 := bstep (below_alloc w1 _) (Nat.le_refl _) hb2
    exact Hid.in ⟨HR1.out.step b12, grown_trans HG1.out (grown_of_below b12 _)⟩
  clear hb2
  go_wp2_with fail
  refine (in_any _ sa (HE.out.below HS.out.be) ra rz q p1 c1 bs HS.out.rd 0 last).mono ?_
  rw [H2.out]
  rintro r w3 ⟨rfl, hR3, hg3⟩
  have T3 := Hid.in (HS.out.in hR3 hg3)
  clear hR3 hg3
  have z3 : w3.cell? ⟨w1.heap.size, 1, none⟩ = some (.int .i64 0) := blk_cell T3.out.bg rfl
  have f3 : w3.frozen? ⟨w1.heap.size, 1, none⟩ = false := blk_free T3.out.bg
  have S3 := Hid.in (T3.out.set 1 (.int .i64 a))
  go_upto_region 5 with fail
  generalize hX3 : w3.setCell ⟨w1.heap.size, 1, none⟩ (.int .i64 a) = X3 at *
  clear z3 f3 hX3
  have yv : X3.cell? ⟨w2.heap.size, 1, none⟩ = some (.bool true) := blk_cell S3.out.bf rfl
  go_wp2_with fail
  refine (in_any _ sa (HE.out.below S3.out.be) ra rz q p2 c2 bs S3.out.rd 0 4294967295).mono ?_
  rw [H3.out]
  rintro r w4 ⟨rfl, hR4, hg4⟩
  have T4 := Hid.in (S3.out.in hR4 hg4)
  clear hR4 hg4
  have z4 : w4.cell? ⟨w1.heap.size, 2, none⟩ = some (.int .u32 0) := blk_cell T4.out.bg rfl
  have f4 : w4.frozen? ⟨w1.heap.size, 2, none⟩ = false := blk_free T4.out.bg
  have S4 := Hid.in (T4.out.set 2 (.int .u32 v))
  go_upto_region 7 with fail
  generalize hX4 : w4.setCell ⟨w1.heap.size, 2, none⟩ (.int .u32 v) = X4 at *
  clear z4 f4 hX4 yv
  have y2 : X4.cell? ⟨w2.heap.size, 2, none⟩ = some (.bool false) := blk_cell S4.out.bf rfl
  have u0 : X4.cell? ⟨w1.heap.size, 0, none⟩ = some (.int .i64 2) := blk_cell S4.out.bg rfl
  have u1 : X4.cell? ⟨w1.heap.size, 1, none⟩ = some (.int .i64 a) := blk_cell S4.out.bg rfl
  have u2 : X4.cell? ⟨w1.heap.size, 2, none⟩ = some (.int .u32 v) := blk_cell S4.out.bg rfl
  have u3 : X4.cell? ⟨w1.heap.size, 3, none⟩ = some (.int .u32 0) := blk_cell S4.out.bg rfl
  have t0 : X4.cell? ⟨w.heap.size, 0, none⟩ = some (.int .i64 0) := blk_cell S4.out.bA rfl
  have r0 : X4.frozen? ⟨w.heap.size, 0, none⟩ = false := blk_free S4.out.bA
  have t1 : X4.cell? ⟨w.heap.size, 1, none⟩ = some (.int .i64 0) := blk_cell S4.out.bA rfl
  have r1 : X4.frozen? ⟨w.heap.size, 1, none⟩ = false := blk_free S4.out.bA
  have t2 : X4.cell? ⟨w.heap.size, 2, none⟩ = some (.int .u32 0) := blk_cell S4.out.bA rfl
  have r2 : X4.frozen? ⟨w.heap.size, 2, none⟩ = false := blk_free S4.out.bA
  have t3 : X4.cell? ⟨w.heap.size, 3, none⟩ = some (.int .u32 0) := blk_cell S4.out.bA rfl
  have r3 : X4.frozen? ⟨w.heap.size, 3, none⟩ = false := blk_free S4.out.bA
  go_wp2
  refine bodyPost_ret (v := .agg #[.int .i64 2, .int .i64 a, .int .u32 v, .int .u32 0]) ?_ rfl ⟨rfl, rg_set4 ⟨S4.out.rd, S4.out.gr⟩ (Nat.le_refl _) HZ.out _ _ _ _⟩
  rw [results_cell1 rfl]
  go_simp

set_option maxRecDepth 20000 in
theorem gget_1 (w0 w : World) (sa : Nat → Addr) (hE : Env10 w0 sa) (hb0 : Below w0.heap.size w0 w) (ra rz q at_ c : Nat) (bs : List Nat) (hR : Rd w sa ra rz q bs at_ c) (hq : w0.heap.size ≤ q) (hz : rz ≤ w.heap.size) (last : Int) (a : Int) (c1 p1 c2 p2 : Nat) (h1 : inS bs 1 4 at_ c = (c1, 1, p1)) (h2 : inS bs 0 last p1 c1 = (c2, a, p2)) :
    Calls Tryd.prog 38 #[.pointer (some ⟨q, 0, none⟩), .int .i64 last] w fun r w' => r = .returned (.agg #[.int .i64 1, .int .i64 a, .int .u32 0, .int .u32 0]) ∧ Rd w' sa ra rz q bs p2 c2 ∧ w.grownBy w' (some q) := by
  have HE := Hid.in hE
  have HB0 := Hid.in hb0
  have HR := Hid.in hR
  have HQ := Hid.in hq
  have HZ := Hid.in hz
  have H1 := Hid.in h1
  have H2 := Hid.in h2
  clear hE hb0 hR hq hz h1 h2
  go_enter Tryd.func38, Tryd.ntmps38
  go_wp2_with fail
  refine (in_any _ sa (HE.out.below (bstep HB0.out (Nat.le_refl _) (below_alloc _ _))) ra rz q at_ c bs (HR.out.step (below_alloc _ _)) 1 4).mono ?_
  rw [H1.out]
  rintro r w1 ⟨rfl, hR1, hg1⟩
  have HA1 : Hid (w1.heap[w.heap.size]? = some (.cells #[.int .i64 0, .int .i64 0, .int .u32 0, .int .u32 0] 29 (0, 0))) := Hid.in ((hg1.block _ (by simp) (by intro e; have := HR.out.lt; cases e; omega)).trans (heap_alloc_new _ _))
  have HG1 : Hid (w.grownBy w1 (some q)) := Hid.in (grown_trans (grown_of_below (below_alloc _ _) _) hg1)
  have HB1 : Hid (Below w0.heap.size w0 w1) := Hid.in (wrote (bstep HB0.out (Nat.le_refl _) (below_alloc _ _)) hg1 (Nat.le_refl _) HQ.out)
  have HR1 := Hid.in hR1
  clear hR1 hg1
  go_wp2_with fail
  refine (named_1 _).mono ?_
  rintro r w2 ⟨rfl, hb2⟩
  have hlt2 : w1.heap.size < w2.heap.size := by have := hb2.size; simp at this; omega
  have HLT2 := Hid.in hlt2
  clear hlt2
  have HS : Hid (GS w0 w sa ra rz q bs p1 c1 w.heap.size w1.heap.size w2.heap.size #[.int .i64 1, .int .i64 0, .int .u32 0, .int .u32 0] #[.bool true, .bool false, .bool false] (w2.alloc (.cells #[.bool true, .bool false, .bool false] 67))) := by
    have b12 := bstep (below_alloc w1 _) (Nat.le_refl _) hb2
    have b13 := bstep b12 (Nat.le_refl _) (below_alloc w2 (.cells #[.bool true, .bool false, .bool false] 67))
    exact Hid.in ⟨HR1.out.step b13, grown_trans HG1.out (grown_of_below b13 _), bstep HB1.out (by have := HB1.out.size; omega) b13, blk_step HA1.out b13, blk_step (blk_step (heap_alloc_new _ _) hb2) (below_alloc _ _), heap_alloc_new _ _, ⟨HQ.out, HR.out.lt, HZ.out, Nat.le_refl _, blk_lt HA1.out, HLT2.out⟩⟩
  have H2R : Hid (Rd w2 sa ra rz q bs p1 c1 ∧ w.grownBy w2 (some q)) := by
    have b12 := bstep (below_alloc w1 _) (Nat.le_refl _) hb2
    exact Hid.in ⟨HR1.out.step b12, grown_trans HG1.out (grown_of_below b12 _)⟩
  clear hb2
  go_wp2_with fail
  refine (in_any _ sa (HE.out.below HS.out.be) ra rz q p1 c1 bs HS.out.rd 0 last).mono ?_
  rw [H2.out]
  rintro r w3 ⟨rfl, hR3, hg3⟩
  have T3 := Hid.in (HS.out.in hR3 hg3)
  clear hR3 hg3
  have z3 : w3.cell? ⟨w1.heap.size, 1, none⟩ = some (.int .i64 0) := blk_cell T3.out.bg rfl
  have f3 : w3.frozen? ⟨w1.heap.size, 1, none⟩ = false := blk_free T3.out.bg
  have S3 := Hid.in (T3.out.set 1 (.int .i64 a))
  go_upto_region 5 with fail
  generalize hX3 : w3.setCell ⟨w1.heap.size, 1, none⟩ (.int .i64 a) = X3 at *
  clear z3 f3 hX3
  have y1 : X3.cell? ⟨w2.heap.size, 1, none⟩ = some (.bool false) := blk_cell S3.out.bf rfl
  have y2 : X3.cell? ⟨w2.heap.size, 2, none⟩ = some (.bool false) := blk_cell S3.out.bf rfl
  have u0 : X3.cell? ⟨w1.heap.size, 0, none⟩ = some (.int .i64 1) := blk_cell S3.out.bg rfl
  have u1 : X3.cell? ⟨w1.heap.size, 1, none⟩ = some (.int .i64 a) := blk_cell S3.out.bg rfl
  have u2 : X3.cell? ⟨w1.heap.size, 2, none⟩ = some (.int .u32 0) := blk_cell S3.out.bg rfl
  have u3 : X3.cell? ⟨w1.heap.size, 3, none⟩ = some (.int .u32 0) := blk_cell S3.out.bg rfl
  have t0 : X3.cell? ⟨w.heap.size, 0, none⟩ = some (.int .i64 0) := blk_cell S3.out.bA rfl
  have r0 : X3.frozen? ⟨w.heap.size, 0, none⟩ = false := blk_free S3.out.bA
  have t1 : X3.cell? ⟨w.heap.size, 1, none⟩ = some (.int .i64 0) := blk_cell S3.out.bA rfl
  have r1 : X3.frozen? ⟨w.heap.size, 1, none⟩ = false := blk_free S3.out.bA
  have t2 : X3.cell? ⟨w.heap.size, 2, none⟩ = some (.int .u32 0) := blk_cell S3.out.bA rfl
  have r2 : X3.frozen? ⟨w.heap.size, 2, none⟩ = false := blk_free S3.out.bA
  have t3 : X3.cell? ⟨w.heap.size, 3, none⟩ = some (.int .u32 0) := blk_cell S3.out.bA rfl
  have r3 : X3.frozen? ⟨w.heap.size, 3, none⟩ = false := blk_free S3.out.bA
  go_wp2
  refine bodyPost_ret (v := .agg #[.int .i64 1, .int .i64 a, .int .u32 0, .int .u32 0]) ?_ rfl ⟨rfl, rg_set4 ⟨S3.out.rd, S3.out.gr⟩ (Nat.le_refl _) HZ.out _ _ _ _⟩
  rw [results_cell1 rfl]
  go_simp

set_option maxRecDepth 20000 in
theorem gget_4 (w0 w : World) (sa : Nat → Addr) (hE : Env10 w0 sa) (hb0 : Below w0.heap.size w0 w) (ra rz q at_ c : Nat) (bs : List Nat) (hR : Rd w sa ra rz q bs at_ c) (hq : w0.heap.size ≤ q) (hz : rz ≤ w.heap.size) (last : Int) (c1 p1 : Nat) (h1 : inS bs 1 4 at_ c = (c1, 4, p1)) :
    Calls Tryd.prog 38 #[.pointer (some ⟨q, 0, none⟩), .int .i64 last] w fun r w' => r = .returned (.agg #[.int .i64 4, .int .i64 0, .int .u32 0, .int .u32 0]) ∧ Rd w' sa ra rz q bs p1 c1 ∧ w.grownBy w' (some q) := by
  have HE := Hid.in hE
  have HB0 := Hid.in hb0
  have HR := Hid.in hR
  have HQ := Hid.in hq
  have HZ := Hid.in hz
  have H1 := Hid.in h1
  clear hE hb0 hR hq hz h1
  go_enter Tryd.func38, Tryd.ntmps38
  go_wp2_with fail
  refine (in_any _ sa (HE.out.below (bstep HB0.out (Nat.le_refl _) (below_alloc _ _))) ra rz q at_ c bs (HR.out.step (below_alloc _ _)) 1 4).mono ?_
  rw [H1.out]
  rintro r w1 ⟨rfl, hR1, hg1⟩
  have HA1 : Hid (w1.heap[w.heap.size]? = some (.cells #[.int .i64 0, .int .i64 0, .int .u32 0, .int .u32 0] 29 (0, 0))) := Hid.in ((hg1.block _ (by simp) (by intro e; have := HR.out.lt; cases e; omega)).trans (heap_alloc_new _ _))
  have HG1 : Hid (w.grownBy w1 (some q)) := Hid.in (grown_trans (grown_of_below (below_alloc _ _) _) hg1)
  have HB1 : Hid (Below w0.heap.size w0 w1) := Hid.in (wrote (bstep HB0.out (Nat.le_refl _) (below_alloc _ _)) hg1 (Nat.le_refl _) HQ.out)
  have HR1 := Hid.in hR1
  clear hR1 hg1
  go_wp2_with fail
  refine (named_4 _).mono ?_
  rintro r w2 ⟨rfl, hb2⟩
  have hlt2 : w1.heap.size < w2.heap.size := by have := hb2.size; simp at this; omega
  have HLT2 := Hid.in hlt2
  clear hlt2
  have HS : Hid (GS w0 w sa ra rz q bs p1 c1 w.heap.size w1.heap.size w2.heap.size #[.int .i64 4, .int .i64 0, .int .u32 0, .int .u32 0] #[.bool false, .bool false, .bool false] (w2.alloc (.cells #[.bool false, .bool false, .bool false] 67))) := by
    have b12 := bstep (below_alloc w1 _) (Nat.le_refl _) hb2
    have b13 := bstep b12 (Nat.le_refl _) (below_alloc w2 (.cells #[.bool false, .bool false, .bool false] 67))
    exact Hid.in ⟨HR1.out.step b13, grown_trans HG1.out (grown_of_below b13 _), bstep HB1.out (by have := HB1.out.size; omega) b13, blk_step HA1.out b13, blk_step (blk_step (heap_alloc_new _ _) hb2) (below_alloc _ _), heap_alloc_new _ _, ⟨HQ.out, HR.out.lt, HZ.out, Nat.le_refl _, blk_lt HA1.out, HLT2.out⟩⟩
  have H2R : Hid (Rd w2 sa ra rz q bs p1 c1 ∧ w.grownBy w2 (some q)) := by
    have b12 := bstep (below_alloc w1 _) (Nat.le_refl _) hb2
    exact Hid.in ⟨HR1.out.step b12, grown_trans HG1.out (grown_of_below b12 _)⟩
  clear hb2
  have HO := HS.out.od
  have ha1 := HO.2.2.2.2.1
  have ha2 := HO.2.2.2.2.2
  have e2 : ∀ (k i : Nat), k < w2.heap.size → w2.cell? ⟨k, i, none⟩ = (w2.alloc (.cells #[.bool false, .bool false, .bool false] 67)).cell? ⟨k, i, none⟩ := fun k i hk => ((below_alloc w2 _).cell (p := ⟨k, i, none⟩) hk).symm
  have u0 : w2.cell? ⟨w1.heap.size, 0, none⟩ = some (.int .i64 4) := (e2 _ _ ha2).trans (blk_cell HS.out.bg rfl)
  have u1 : w2.cell? ⟨w1.heap.size, 1, none⟩ = some (.int .i64 0) := (e2 _ _ ha2).trans (blk_cell HS.out.bg rfl)
  have u2 : w2.cell? ⟨w1.heap.size, 2, none⟩ = some (.int .u32 0) := (e2 _ _ ha2).trans (blk_cell HS.out.bg rfl)
  have u3 : w2.cell? ⟨w1.heap.size, 3, none⟩ = some (.int .u32 0) := (e2 _ _ ha2).trans (blk_cell HS.out.bg rfl)
  have t0 : w2.cell? ⟨w.heap.size, 0, none⟩ = some (.int .i64 0) := (e2 _ _ (Nat.lt_trans ha1 ha2)).trans (blk_cell HS.out.bA rfl)
  have r0 : w2.frozen? ⟨w.heap.size, 0, none⟩ = false := blk_free (((below_alloc w2 _).block _ (Nat.lt_trans ha1 ha2)).symm.trans HS.out.bA)
  have t1 : w2.cell? ⟨w.heap.size, 1, none⟩ = some (.int .i64 0) := (e2 _ _ (Nat.lt_trans ha1 ha2)).trans (blk_cell HS.out.bA rfl)
  have r1 : w2.frozen? ⟨w.heap.size, 1, none⟩ = false := blk_free (((below_alloc w2 _).block _ (Nat.lt_trans ha1 ha2)).symm.trans HS.out.bA)
  have t2 : w2.cell? ⟨w.heap.size, 2, none⟩ = some (.int .u32 0) := (e2 _ _ (Nat.lt_trans ha1 ha2)).trans (blk_cell HS.out.bA rfl)
  have r2 : w2.frozen? ⟨w.heap.size, 2, none⟩ = false := blk_free (((below_alloc w2 _).block _ (Nat.lt_trans ha1 ha2)).symm.trans HS.out.bA)
  have t3 : w2.cell? ⟨w.heap.size, 3, none⟩ = some (.int .u32 0) := (e2 _ _ (Nat.lt_trans ha1 ha2)).trans (blk_cell HS.out.bA rfl)
  have r3 : w2.frozen? ⟨w.heap.size, 3, none⟩ = false := blk_free (((below_alloc w2 _).block _ (Nat.lt_trans ha1 ha2)).symm.trans HS.out.bA)
  have hlt3 := Nat.lt_trans ha1 ha2
  clear e2
  go_wp2
  refine bodyPost_ret (v := .agg #[.int .i64 4, .int .i64 0, .int .u32 0, .int .u32 0]) ?_ rfl ⟨rfl, rg_alloc (rg_set4 H2R.out (Nat.le_refl _) HZ.out _ _ _ _) _⟩
  rw [results_cell1 rfl]
  go_simp

set_option maxRecDepth 20000 in
theorem gget_0 (w0 w : World) (sa : Nat → Addr) (hE : Env10 w0 sa) (hb0 : Below w0.heap.size w0 w) (ra rz q at_ c : Nat) (bs : List Nat) (hR : Rd w sa ra rz q bs at_ c) (hq : w0.heap.size ≤ q) (hz : rz ≤ w.heap.size) (last : Int) (c1 p1 : Nat) (h1 : inS bs 1 4 at_ c = (c1, 0, p1)) :
    Calls Tryd.prog 38 #[.pointer (some ⟨q, 0, none⟩), .int .i64 last] w fun r w' => r = .returned (.agg #[.int .i64 0, .int .i64 0, .int .u32 0, .int .u32 0]) ∧ Rd w' sa ra rz q bs p1 c1 ∧ w.grownBy w' (some q) := by
  have HE := Hid.in hE
  have HB0 := Hid.in hb0
  have HR := Hid.in hR
  have HQ := Hid.in hq
  have HZ := Hid.in hz
  have H1 := Hid.in h1
  clear hE hb0 hR hq hz h1
  go_enter Tryd.func38, Tryd.ntmps38
  go_wp2_with fail
  refine (in_any _ sa (HE.out.below (bstep HB0.out (Nat.le_refl _) (below_alloc _ _))) ra rz q at_ c bs (HR.out.step (below_alloc _ _)) 1 4).mono ?_
  rw [H1.out]
  rintro r w1 ⟨rfl, hR1, hg1⟩
  have HA1 : Hid (w1.heap[w.heap.size]? = some (.cells #[.int .i64 0, .int .i64 0, .int .u32 0, .int .u32 0] 29 (0, 0))) := Hid.in ((hg1.block _ (by simp) (by intro e; have := HR.out.lt; cases e; omega)).trans (heap_alloc_new _ _))
  have HG1 : Hid (w.grownBy w1 (some q)) := Hid.in (grown_trans (grown_of_below (below_alloc _ _) _) hg1)
  have HB1 : Hid (Below w0.heap.size w0 w1) := Hid.in (wrote (bstep HB0.out (Nat.le_refl _) (below_alloc _ _)) hg1 (Nat.le_refl _) HQ.out)
  have HR1 := Hid.in hR1
  clear hR1 hg1
  go_wp2_with fail
  refine (named_no 0 _ rfl rfl rfl rfl).mono ?_
  rintro r w2 ⟨rfl, hb2⟩
  have hlt2 : w1.heap.size < w2.heap.size := by have := hb2.size; simp at this; omega
  have HLT2 := Hid.in hlt2
  clear hlt2
  have HS : Hid (GS w0 w sa ra rz q bs p1 c1 w.heap.size w1.heap.size w2.heap.size #[.int .i64 0, .int .i64 0, .int .u32 0, .int .u32 0] #[.bool false, .bool false, .bool false] (w2.alloc (.cells #[.bool false, .bool false, .bool false] 67))) := by
    have b12 := bstep (below_alloc w1 _) (Nat.le_refl _) hb2
    have b13 := bstep b12 (Nat.le_refl _) (below_alloc w2 (.cells #[.bool false, .bool false, .bool false] 67))
    exact Hid.in ⟨HR1.out.step b13, grown_trans HG1.out (grown_of_below b13 _), bstep HB1.out (by have := HB1.out.size; omega) b13, blk_step HA1.out b13, blk_step (blk_step (heap_alloc_new _ _) hb2) (below_alloc _ _), heap_alloc_new _ _, ⟨HQ.out, HR.out.lt, HZ.out, Nat.le_refl _, blk_lt HA1.out, HLT2.out⟩⟩
  have H2R : Hid (Rd w2 sa ra rz q bs p1 c1 ∧ w.grownBy w2 (some q)) := by
    have b12 := bstep (below_alloc w1 _) (Nat.le_refl _) hb2
    exact Hid.in ⟨HR1.out.step b12, grown_trans HG1.out (grown_of_below b12 _)⟩
  clear hb2
  have HO := HS.out.od
  have ha1 := HO.2.2.2.2.1
  have ha2 := HO.2.2.2.2.2
  have e2 : ∀ (k i : Nat), k < w2.heap.size → w2.cell? ⟨k, i, none⟩ = (w2.alloc (.cells #[.bool false, .bool false, .bool false] 67)).cell? ⟨k, i, none⟩ := fun k i hk => ((below_alloc w2 _).cell (p := ⟨k, i, none⟩) hk).symm
  have u0 : w2.cell? ⟨w1.heap.size, 0, none⟩ = some (.int .i64 0) := (e2 _ _ ha2).trans (blk_cell HS.out.bg rfl)
  have u1 : w2.cell? ⟨w1.heap.size, 1, none⟩ = some (.int .i64 0) := (e2 _ _ ha2).trans (blk_cell HS.out.bg rfl)
  have u2 : w2.cell? ⟨w1.heap.size, 2, none⟩ = some (.int .u32 0) := (e2 _ _ ha2).trans (blk_cell HS.out.bg rfl)
  have u3 : w2.cell? ⟨w1.heap.size, 3, none⟩ = some (.int .u32 0) := (e2 _ _ ha2).trans (blk_cell HS.out.bg rfl)
  have t0 : w2.cell? ⟨w.heap.size, 0, none⟩ = some (.int .i64 0) := (e2 _ _ (Nat.lt_trans ha1 ha2)).trans (blk_cell HS.out.bA rfl)
  have r0 : w2.frozen? ⟨w.heap.size, 0, none⟩ = false := blk_free (((below_alloc w2 _).block _ (Nat.lt_trans ha1 ha2)).symm.trans HS.out.bA)
  have t1 : w2.cell? ⟨w.heap.size, 1, none⟩ = some (.int .i64 0) := (e2 _ _ (Nat.lt_trans ha1 ha2)).trans (blk_cell HS.out.bA rfl)
  have r1 : w2.frozen? ⟨w.heap.size, 1, none⟩ = false := blk_free (((below_alloc w2 _).block _ (Nat.lt_trans ha1 ha2)).symm.trans HS.out.bA)
  have t2 : w2.cell? ⟨w.heap.size, 2, none⟩ = some (.int .u32 0) := (e2 _ _ (Nat.lt_trans ha1 ha2)).trans (blk_cell HS.out.bA rfl)
  have r2 : w2.frozen? ⟨w.heap.size, 2, none⟩ = false := blk_free (((below_alloc w2 _).block _ (Nat.lt_trans ha1 ha2)).symm.trans HS.out.bA)
  have t3 : w2.cell? ⟨w.heap.size, 3, none⟩ = some (.int .u32 0) := (e2 _ _ (Nat.lt_trans ha1 ha2)).trans (blk_cell HS.out.bA rfl)
  have r3 : w2.frozen? ⟨w.heap.size, 3, none⟩ = false := blk_free (((below_alloc w2 _).block _ (Nat.lt_trans ha1 ha2)).symm.trans HS.out.bA)
  have hlt3 := Nat.lt_trans ha1 ha2
  clear e2
  go_wp2
  refine bodyPost_ret (v := .agg #[.int .i64 0, .int .i64 0, .int .u32 0, .int .u32 0]) ?_ rfl ⟨rfl, rg_alloc (rg_set4 H2R.out (Nat.le_refl _) HZ.out _ _ _ _) _⟩
  rw [results_cell1 rfl]
  go_simp

/-- get, of whatever. -/
theorem gget_any (w0 w : World) (sa : Nat → Addr) (hE : Env10 w0 sa) (hb0 : Below w0.heap.size w0 w) (ra rz q at_ c : Nat) (bs : List Nat) (hR : Rd w sa ra rz q bs at_ c) (hq : w0.heap.size ≤ q) (hz : rz ≤ w.heap.size) (last k a v o : Int) (c' p' : Nat) (h : getO bs last at_ c = (c', (k, a, v, o), p')) :
    Calls Tryd.prog 38 #[.pointer (some ⟨q, 0, none⟩), .int .i64 last] w fun r w' => r = .returned (.agg #[.int .i64 k, .int .i64 a, .int .u32 v, .int .u32 o]) ∧ Rd w' sa ra rz q bs p' c' ∧ w.grownBy w' (some q) := by
  have hb := getO_num bs last at_ c
  rw [h] at hb
  simp only at hb
  obtain ⟨c1, k1, p1, h1, hk⟩ := kind_cases bs at_ c
  rcases hk with rfl | rfl | rfl | rfl | rfl
  · rw [getO_bare h1 (.inl rfl)] at h
    simp only [Prod.mk.injEq] at h
    obtain ⟨rfl, ⟨rfl, rfl, rfl, rfl⟩, rfl⟩ := h
    exact gget_0 w0 w sa hE hb0 ra rz q at_ c bs hR hq hz last _ _ h1
  · rw [getO_bare h1 (.inr rfl)] at h
    simp only [Prod.mk.injEq] at h
    obtain ⟨rfl, ⟨rfl, rfl, rfl, rfl⟩, rfl⟩ := h
    exact gget_4 w0 w sa hE hb0 ra rz q at_ c bs hR hq hz last _ _ h1
  · rcases h2 : inS bs 0 last p1 c1 with ⟨c2, ad, a2⟩
    rw [getO_load h1 h2] at h
    simp only [Prod.mk.injEq] at h
    obtain ⟨rfl, ⟨rfl, rfl, rfl, rfl⟩, rfl⟩ := h
    exact gget_1 w0 w sa hE hb0 ra rz q at_ c bs hR hq hz last _ _ _ _ _ h1 h2
  · rcases h2 : inS bs 0 last p1 c1 with ⟨c2, ad, a2⟩
    rcases h3 : inS bs 0 4294967295 a2 c2 with ⟨c3, v3, a3⟩
    rw [getO_store h1 h2 h3] at h
    simp only [Prod.mk.injEq] at h
    obtain ⟨rfl, ⟨rfl, rfl, rfl, rfl⟩, rfl⟩ := h
    exact gget_2 w0 w sa hE hb0 ra rz q at_ c bs hR hq hz last _ _ _ _ _ _ _ _ h1 h2 h3 hb.1 hb.2.1
  · rcases h2 : inS bs 0 last p1 c1 with ⟨c2, ad, a2⟩
    rcases h3 : inS bs 0 4294967295 a2 c2 with ⟨c3, v3, a3⟩
    rcases h4 : inS bs 0 4294967295 a3 c3 with ⟨c4, o4, a4⟩
    rw [getO_cas h1 h2 h3 h4] at h
    simp only [Prod.mk.injEq] at h
    obtain ⟨rfl, ⟨rfl, rfl, rfl, rfl⟩, rfl⟩ := h
    exact gget_3 w0 w sa hE hb0 ra rz q at_ c bs hR hq hz last _ _ _ _ _ _ _ _ _ _ _ h1 h2 h3 h4 hb.1 hb.2.1 hb.2.2.1 hb.2.2.2

end Go.Proofs.YtbanihjjeicdaaaDoor

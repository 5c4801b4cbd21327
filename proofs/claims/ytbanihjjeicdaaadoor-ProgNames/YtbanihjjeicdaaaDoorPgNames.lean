/- DERIVED of the program: ProgNames returns true. Own work. (written by src/PgNames.mk.py) -/
import Derived.Test.YtbanihjjeicdaaaDoorPgRuns
import Derived.RegionTactic
import Derived.ChangeAlike
import Derived.Test.YtbanihjjeicdaaaDoorGenR
namespace Go.Proofs.YtbanihjjeicdaaaDoor
open Go.RowKit Go.Extern.Stop Go.Stop Go.Extern

theorem al3 (w : World) (X : Obj) (k : Nat) (h : w.heap.size ≤ k) (h2 : k < w.heap.size + 3) : (((w.alloc X).alloc X).alloc X).drew.heap[k]? = some X := by
  show (((w.heap.push X).push X).push X)[k]? = some X
  simp only [Array.getElem?_push, Array.size_push]
  by_cases h3 : k = w.heap.size + 1 + 1
  · rw [if_pos h3]
  · rw [if_neg h3]
    by_cases h4 : k = w.heap.size + 1
    · rw [if_pos h4]
    · rw [if_neg h4, if_pos (by omega)]
theorem al3_below (w : World) (X : Obj) : Below w.heap.size w (((w.alloc X).alloc X).alloc X).drew :=
  ((((below_alloc w X)).alloc (by simp) X).alloc (by simp; omega) X).drew

/-- In the midst of ProgNames: the operation and its three copies. -/
structure NS (w : World) (A g1 g2 g3 : Nat) (c0 c1 c2 c3 : Array Value) (wx : World) : Prop where
  od : w.heap.size ≤ A ∧ A < g1 ∧ A < g2 ∧ A < g3 ∧ g1 ≠ g2 ∧ g1 ≠ g3 ∧ g2 ≠ g3
  bA : wx.heap[A]? = some (.cells c0 29 (0, 0))
  b1 : wx.heap[g1]? = some (.cells c1 29 (0, 0))
  b2 : wx.heap[g2]? = some (.cells c2 29 (0, 0))
  b3 : wx.heap[g3]? = some (.cells c3 29 (0, 0))
  be : Below w.heap.size w wx
theorem NS.step {w wx wy : World} {A g1 g2 g3 : Nat} {c0 c1 c2 c3 : Array Value} (h : NS w A g1 g2 g3 c0 c1 c2 c3 wx) (hb : Below wx.heap.size wx wy) : NS w A g1 g2 g3 c0 c1 c2 c3 wy :=
  ⟨h.od, blk_step h.bA hb, blk_step h.b1 hb, blk_step h.b2 hb, blk_step h.b3 hb, bstep h.be (Nat.le_refl _) hb⟩
theorem blk_other {w : World} {q p i : Nat} {ob : Obj} (v : Value) (h : w.heap[q]? = some ob) (hne : q ≠ p) : (w.setCell ⟨p, i, none⟩ v).heap[q]? = some ob := (Below.heap_setCell _ _ _ q hne).trans h
theorem NS.set1 {w wx : World} {A g1 g2 g3 : Nat} {c0 c1 c2 c3 : Array Value} (h : NS w A g1 g2 g3 c0 c1 c2 c3 wx) (i : Nat) (v : Value) : NS w A g1 g2 g3 c0 (c1.setIfInBounds i v) c2 c3 (wx.setCell ⟨g1, i, none⟩ v) := by
  obtain ⟨h0, h1, h2, h3, h4, h5, h6⟩ := h.od
  exact ⟨h.od, blk_other v h.bA (by omega), blk_set v h.b1, blk_other v h.b2 (by omega), blk_other v h.b3 (by omega), h.be.setCell (p := ⟨g1, i, none⟩) (by show w.heap.size ≤ g1; omega) v⟩
theorem NS.set2 {w wx : World} {A g1 g2 g3 : Nat} {c0 c1 c2 c3 : Array Value} (h : NS w A g1 g2 g3 c0 c1 c2 c3 wx) (i : Nat) (v : Value) : NS w A g1 g2 g3 c0 c1 (c2.setIfInBounds i v) c3 (wx.setCell ⟨g2, i, none⟩ v) := by
  obtain ⟨h0, h1, h2, h3, h4, h5, h6⟩ := h.od
  exact ⟨h.od, blk_other v h.bA (by omega), blk_other v h.b1 (by omega), blk_set v h.b2, blk_other v h.b3 (by omega), h.be.setCell (p := ⟨g2, i, none⟩) (by show w.heap.size ≤ g2; omega) v⟩
theorem NS.set3 {w wx : World} {A g1 g2 g3 : Nat} {c0 c1 c2 c3 : Array Value} (h : NS w A g1 g2 g3 c0 c1 c2 c3 wx) (i : Nat) (v : Value) : NS w A g1 g2 g3 c0 c1 c2 (c3.setIfInBounds i v) (wx.setCell ⟨g3, i, none⟩ v) := by
  obtain ⟨h0, h1, h2, h3, h4, h5, h6⟩ := h.od
  exact ⟨h.od, blk_other v h.bA (by omega), blk_other v h.b1 (by omega), blk_other v h.b2 (by omega), blk_set v h.b3, h.be.setCell (p := ⟨g3, i, none⟩) (by show w.heap.size ≤ g3; omega) v⟩

set_option maxHeartbeats 3200000 in
set_option maxRecDepth 20000 in
theorem progNames_yes (w : World) (sa : Nat → Addr) (hE : Env10 w sa) (k a v o n x m : Int) (hm : wI n 1 128 = m) (m1 : 1 ≤ m) (m2 : m ≤ 128) (hr : rt (k, a, v, o) m = true) (hx : (x == 0) = false) (x0 : 0 < x) (x1 : x < 4294967296) : Calls Tryd.prog 6 #[.agg #[.int .i64 k, .int .i64 a, .int .u32 v, .int .u32 o], .int .i64 n, .int .u32 x] w fun r w' => r = .returned (.bool true) ∧ Below w.heap.size w w' := by
  have HE := Hid.in hE
  have HM := Hid.in hm
  have HR := Hid.in hr
  clear hE hm hr
  go_enter Tryd.func6, Tryd.ntmps6
  go_wp2_with fail
  refine (within_i n 1 128 _ (by decide) (by decide) (by decide)).mono ?_
  rw [HM.out]
  rintro r w' ⟨rfl, rfl⟩
  go_wp2_with fail
  refine (right_any k a v o m _).mono ?_
  rw [HR.out]
  rintro r w1 ⟨rfl, hb1⟩
  have HO1 : Hid (w1.heap[w.heap.size]? = some (.cells #[.int .i64 k, .int .i64 a, .int .u32 v, .int .u32 o] 29 (0, 0))) := Hid.in (blk_step (heap_alloc_new _ _) hb1)
  have HB1 := Hid.in (bstep (below_alloc w _) (Nat.le_refl _) hb1)
  clear hb1
  obtain ⟨A, hA⟩ : ∃ A, A = w.heap.size := ⟨_, rfl⟩
  rw [← hA] at HO1 ⊢
  have y0 : w1.cell? ⟨A, 0, none⟩ = some (.int .i64 k) := blk_cell HO1.out rfl
  have y1 : w1.cell? ⟨A, 1, none⟩ = some (.int .i64 a) := blk_cell HO1.out rfl
  have y2 : w1.cell? ⟨A, 2, none⟩ = some (.int .u32 v) := blk_cell HO1.out rfl
  have y3 : w1.cell? ⟨A, 3, none⟩ = some (.int .u32 o) := blk_cell HO1.out rfl
  have hlt : A < w1.heap.size := blk_lt HO1.out
  have hlt1 : A < w1.heap.size + 1 := by omega
  have hlt2 : A < w1.heap.size + 1 + 1 := by omega
  have HAA := Hid.in hA
  clear hA
  go_upto_region 4 with fail
  go_cut [8, 9, 10] (fun s8 s9 s10 wx => ∃ g1 g2 g3 : Nat, s8 = .pointer (some ⟨g1, 0, none⟩) ∧ s9 = .pointer (some ⟨g2, 0, none⟩) ∧ s10 = .pointer (some ⟨g3, 0, none⟩) ∧
    NS w A g1 g2 g3 #[.int .i64 k, .int .i64 a, .int .u32 v, .int .u32 o] #[.int .i64 k, .int .i64 a, .int .u32 v, .int .u32 o] #[.int .i64 k, .int .i64 a, .int .u32 v, .int .u32 o] #[.int .i64 k, .int .i64 a, .int .u32 v, .int .u32 o] wx)
  case first =>
    go_region
    all_goals
      go_wp2_with fail
      go_meet
      case rel =>
        refine ⟨_, _, _, rfl, rfl, rfl, ⟨?_, blk_step HO1.out (al3_below _ _), al3 _ _ _ (by omega) (by omega), al3 _ _ _ (by omega) (by omega), al3 _ _ _ (by omega) (by omega), bstep HB1.out (Nat.le_refl _) (al3_below _ _)⟩⟩
        have := HAA.out
        omega
  case rest =>
  obtain ⟨g1, g2, g3, rfl, rfl, rfl, hS⟩ := hcut
  clear y0 y1 y2 y3 hlt hlt1 hlt2 HO1 HB1
  obtain ⟨h0, h1, h2, h3, h4, h5, h6⟩ := hS.od
  have y2 : wc.cell? ⟨A, 2, none⟩ = some (.int .u32 v) := blk_cell hS.bA rfl
  have y3 : wc.cell? ⟨A, 3, none⟩ = some (.int .u32 o) := blk_cell hS.bA rfl
  have u1 : wc.cell? ⟨g1, 3, none⟩ = some (.int .u32 o) := blk_cell hS.b1 rfl
  have u2 : wc.cell? ⟨g2, 2, none⟩ = some (.int .u32 v) := blk_cell hS.b2 rfl
  have u3 : wc.cell? ⟨g3, 1, none⟩ = some (.int .i64 a) := blk_cell hS.b3 rfl
  have f1 : wc.frozen? ⟨g1, 3, none⟩ = false := blk_free hS.b1
  have f2 : wc.frozen? ⟨g2, 2, none⟩ = false := blk_free hS.b2
  have f3 : wc.frozen? ⟨g3, 1, none⟩ = false := blk_free hS.b3
  have HS := Hid.in hS
  clear hS
  go_upto_region 5 with fail
  go_cut [] (fun wx => ∃ U V : Int, U = (o + x) % 4294967296 ∧ V = (v + x) % 4294967296 ∧ NS w A g1 g2 g3 #[.int .i64 k, .int .i64 a, .int .u32 v, .int .u32 o] #[.int .i64 k, .int .i64 a, .int .u32 v, .int .u32 U] #[.int .i64 k, .int .i64 a, .int .u32 V, .int .u32 o] #[.int .i64 k, .int .i64 m, .int .u32 v, .int .u32 o] wx)
  case first =>
    go_region
    all_goals
      go_wp2_with fail
      go_meet
      case rel => exact ⟨_, _, rfl, rfl, (((HS.out.set1 3 _).set2 2 _).set3 1 _).step ((Below.refl _ _).drew)⟩
  case rest =>
  obtain ⟨U, V, hU, hV, hS⟩ := hcut
  clear y2 y3 u1 u2 u3 f1 f2 f3 HS
  have HS := Hid.in hS
  have HU := Hid.in hU
  have HV := Hid.in hV
  clear hU hV hS hx
  obtain ⟨_, h⟩ := (rt_iff _ m).1 HR.out
  clear HR HM HAA
  simp only at h
  rcases h with h | h | h | h
  · as_aux_lemma =>
    obtain ⟨rfl, rfl, rfl, rfl⟩ := h
    have eU : U ≠ 0 := by have h1 := HU.out; omega
    have eV : V ≠ 0 := by have h1 := HV.out; omega
    have R1 : Hid (∀ W, Calls Tryd.prog 16 #[.agg #[.int .i64 4, .int .i64 0, .int .u32 0, .int .u32 U], .int .i64 m] W fun r w' => r = .returned (.bool false) ∧ Below W.heap.size W w') := Hid.in (fun W => by
      have h := right_any 4 0 0 U m W
      rwa [show rt (4, 0, 0, U) m = false from rt_no _ _ (by simp <;> omega)] at h)
    have R2 : Hid (∀ W, Calls Tryd.prog 16 #[.agg #[.int .i64 4, .int .i64 0, .int .u32 V, .int .u32 0], .int .i64 m] W fun r w' => r = .returned (.bool false) ∧ Below W.heap.size W w') := Hid.in (fun W => by
      have h := right_any 4 0 V 0 m W
      rwa [show rt (4, 0, V, 0) m = false from rt_no _ _ (by simp <;> omega)] at h)
    have R3 : Hid (∀ W, Calls Tryd.prog 16 #[.agg #[.int .i64 4, .int .i64 m, .int .u32 0, .int .u32 0], .int .i64 m] W fun r w' => r = .returned (.bool false) ∧ Below W.heap.size W w') := Hid.in (fun W => by
      have h := right_any 4 m 0 0 m W
      rwa [show rt (4, m, 0, 0) m = false from rt_no _ _ (by simp <;> omega)] at h)
    have R4 : Hid (∀ W, Calls Tryd.prog 16 #[.agg #[.int .i64 4, .int .i64 (-1), .int .u32 0, .int .u32 0], .int .i64 m] W fun r w' => r = .returned (.bool false) ∧ Below W.heap.size W w') := Hid.in (fun W => by
      have h := right_any 4 (-1) 0 0 m W
      rwa [show rt (4, (-1), 0, 0) m = false from rt_no _ _ (by simp <;> omega)] at h)
    clear eU eV HU HV
    have p0 : ∀ n : Kin (NS w A g1 g2 g3 #[.int .i64 4, .int .i64 0, .int .u32 0, .int .u32 0] #[.int .i64 4, .int .i64 0, .int .u32 0, .int .u32 U] #[.int .i64 4, .int .i64 0, .int .u32 V, .int .u32 0] #[.int .i64 4, .int .i64 m, .int .u32 0, .int .u32 0]), n.of.cell? ⟨A, 0, none⟩ = some (.int .i64 4) := fun n => blk_cell n.in.bA rfl
    have p1 : ∀ n : Kin (NS w A g1 g2 g3 #[.int .i64 4, .int .i64 0, .int .u32 0, .int .u32 0] #[.int .i64 4, .int .i64 0, .int .u32 0, .int .u32 U] #[.int .i64 4, .int .i64 0, .int .u32 V, .int .u32 0] #[.int .i64 4, .int .i64 m, .int .u32 0, .int .u32 0]), n.of.cell? ⟨A, 1, none⟩ = some (.int .i64 0) := fun n => blk_cell n.in.bA rfl
    have p2 : ∀ n : Kin (NS w A g1 g2 g3 #[.int .i64 4, .int .i64 0, .int .u32 0, .int .u32 0] #[.int .i64 4, .int .i64 0, .int .u32 0, .int .u32 U] #[.int .i64 4, .int .i64 0, .int .u32 V, .int .u32 0] #[.int .i64 4, .int .i64 m, .int .u32 0, .int .u32 0]), n.of.cell? ⟨A, 2, none⟩ = some (.int .u32 0) := fun n => blk_cell n.in.bA rfl
    have p3 : ∀ n : Kin (NS w A g1 g2 g3 #[.int .i64 4, .int .i64 0, .int .u32 0, .int .u32 0] #[.int .i64 4, .int .i64 0, .int .u32 0, .int .u32 U] #[.int .i64 4, .int .i64 0, .int .u32 V, .int .u32 0] #[.int .i64 4, .int .i64 m, .int .u32 0, .int .u32 0]), n.of.cell? ⟨A, 3, none⟩ = some (.int .u32 0) := fun n => blk_cell n.in.bA rfl
    have q0 : ∀ n : Kin (NS w A g1 g2 g3 #[.int .i64 4, .int .i64 0, .int .u32 0, .int .u32 0] #[.int .i64 4, .int .i64 0, .int .u32 0, .int .u32 U] #[.int .i64 4, .int .i64 0, .int .u32 V, .int .u32 0] #[.int .i64 4, .int .i64 m, .int .u32 0, .int .u32 0]), n.of.cell? ⟨g1, 0, none⟩ = some (.int .i64 4) := fun n => blk_cell n.in.b1 rfl
    have q1 : ∀ n : Kin (NS w A g1 g2 g3 #[.int .i64 4, .int .i64 0, .int .u32 0, .int .u32 0] #[.int .i64 4, .int .i64 0, .int .u32 0, .int .u32 U] #[.int .i64 4, .int .i64 0, .int .u32 V, .int .u32 0] #[.int .i64 4, .int .i64 m, .int .u32 0, .int .u32 0]), n.of.cell? ⟨g1, 1, none⟩ = some (.int .i64 0) := fun n => blk_cell n.in.b1 rfl
    have q2 : ∀ n : Kin (NS w A g1 g2 g3 #[.int .i64 4, .int .i64 0, .int .u32 0, .int .u32 0] #[.int .i64 4, .int .i64 0, .int .u32 0, .int .u32 U] #[.int .i64 4, .int .i64 0, .int .u32 V, .int .u32 0] #[.int .i64 4, .int .i64 m, .int .u32 0, .int .u32 0]), n.of.cell? ⟨g1, 2, none⟩ = some (.int .u32 0) := fun n => blk_cell n.in.b1 rfl
    have q3 : ∀ n : Kin (NS w A g1 g2 g3 #[.int .i64 4, .int .i64 0, .int .u32 0, .int .u32 0] #[.int .i64 4, .int .i64 0, .int .u32 0, .int .u32 U] #[.int .i64 4, .int .i64 0, .int .u32 V, .int .u32 0] #[.int .i64 4, .int .i64 m, .int .u32 0, .int .u32 0]), n.of.cell? ⟨g1, 3, none⟩ = some (.int .u32 U) := fun n => blk_cell n.in.b1 rfl
    have r0 : ∀ n : Kin (NS w A g1 g2 g3 #[.int .i64 4, .int .i64 0, .int .u32 0, .int .u32 0] #[.int .i64 4, .int .i64 0, .int .u32 0, .int .u32 U] #[.int .i64 4, .int .i64 0, .int .u32 V, .int .u32 0] #[.int .i64 4, .int .i64 m, .int .u32 0, .int .u32 0]), n.of.cell? ⟨g2, 0, none⟩ = some (.int .i64 4) := fun n => blk_cell n.in.b2 rfl
    have r1 : ∀ n : Kin (NS w A g1 g2 g3 #[.int .i64 4, .int .i64 0, .int .u32 0, .int .u32 0] #[.int .i64 4, .int .i64 0, .int .u32 0, .int .u32 U] #[.int .i64 4, .int .i64 0, .int .u32 V, .int .u32 0] #[.int .i64 4, .int .i64 m, .int .u32 0, .int .u32 0]), n.of.cell? ⟨g2, 1, none⟩ = some (.int .i64 0) := fun n => blk_cell n.in.b2 rfl
    have r2 : ∀ n : Kin (NS w A g1 g2 g3 #[.int .i64 4, .int .i64 0, .int .u32 0, .int .u32 0] #[.int .i64 4, .int .i64 0, .int .u32 0, .int .u32 U] #[.int .i64 4, .int .i64 0, .int .u32 V, .int .u32 0] #[.int .i64 4, .int .i64 m, .int .u32 0, .int .u32 0]), n.of.cell? ⟨g2, 2, none⟩ = some (.int .u32 V) := fun n => blk_cell n.in.b2 rfl
    have r3 : ∀ n : Kin (NS w A g1 g2 g3 #[.int .i64 4, .int .i64 0, .int .u32 0, .int .u32 0] #[.int .i64 4, .int .i64 0, .int .u32 0, .int .u32 U] #[.int .i64 4, .int .i64 0, .int .u32 V, .int .u32 0] #[.int .i64 4, .int .i64 m, .int .u32 0, .int .u32 0]), n.of.cell? ⟨g2, 3, none⟩ = some (.int .u32 0) := fun n => blk_cell n.in.b2 rfl
    have s0 : ∀ n : Kin (NS w A g1 g2 g3 #[.int .i64 4, .int .i64 0, .int .u32 0, .int .u32 0] #[.int .i64 4, .int .i64 0, .int .u32 0, .int .u32 U] #[.int .i64 4, .int .i64 0, .int .u32 V, .int .u32 0] #[.int .i64 4, .int .i64 m, .int .u32 0, .int .u32 0]), n.of.cell? ⟨g3, 0, none⟩ = some (.int .i64 4) := fun n => blk_cell n.in.b3 rfl
    have s1 : ∀ n : Kin (NS w A g1 g2 g3 #[.int .i64 4, .int .i64 0, .int .u32 0, .int .u32 0] #[.int .i64 4, .int .i64 0, .int .u32 0, .int .u32 U] #[.int .i64 4, .int .i64 0, .int .u32 V, .int .u32 0] #[.int .i64 4, .int .i64 m, .int .u32 0, .int .u32 0]), n.of.cell? ⟨g3, 1, none⟩ = some (.int .i64 m) := fun n => blk_cell n.in.b3 rfl
    have s2 : ∀ n : Kin (NS w A g1 g2 g3 #[.int .i64 4, .int .i64 0, .int .u32 0, .int .u32 0] #[.int .i64 4, .int .i64 0, .int .u32 0, .int .u32 U] #[.int .i64 4, .int .i64 0, .int .u32 V, .int .u32 0] #[.int .i64 4, .int .i64 m, .int .u32 0, .int .u32 0]), n.of.cell? ⟨g3, 2, none⟩ = some (.int .u32 0) := fun n => blk_cell n.in.b3 rfl
    have s3 : ∀ n : Kin (NS w A g1 g2 g3 #[.int .i64 4, .int .i64 0, .int .u32 0, .int .u32 0] #[.int .i64 4, .int .i64 0, .int .u32 0, .int .u32 U] #[.int .i64 4, .int .i64 0, .int .u32 V, .int .u32 0] #[.int .i64 4, .int .i64 m, .int .u32 0, .int .u32 0]), n.of.cell? ⟨g3, 3, none⟩ = some (.int .u32 0) := fun n => blk_cell n.in.b3 rfl
    go_upto_region 6 with fail
    refine wp_region_kin (C := (NS w A g1 g2 g3 #[.int .i64 4, .int .i64 0, .int .u32 0, .int .u32 0] #[.int .i64 4, .int .i64 0, .int .u32 0, .int .u32 U] #[.int .i64 4, .int .i64 0, .int .u32 V, .int .u32 0] #[.int .i64 4, .int .i64 m, .int .u32 0, .int .u32 0])) (by kernel_rfl) (by kernel_rfl) (HS.out.step ((Below.refl _ _).drew)) (fun hne' => ?_)
    repeat (go_big_quiet_step (first | (go_at_call 16; with_reducible exact Kin.call _ (fun hc => (R1.out _).mono (fun _ _ hr => ⟨hr.1, hc.step hr.2⟩))) | (go_at_call 16; with_reducible exact Kin.call _ (fun hc => (R2.out _).mono (fun _ _ hr => ⟨hr.1, hc.step hr.2⟩))) | (go_at_call 16; with_reducible exact Kin.call _ (fun hc => (R3.out _).mono (fun _ _ hr => ⟨hr.1, hc.step hr.2⟩)))))
    refine wpQuiet_nil ?_
    rintro wn ⟨n, rfl⟩
    have HN := Hid.in n.in
    obtain ⟨wn, hwn⟩ : ∃ wn, n.of = wn := ⟨_, rfl⟩
    rw [hwn] at HN ⊢
    clear hwn n p0 p1 p2 p3 q0 q1 q2 q3 r0 r1 r2 r3 s0 s1 s2 s3 HS
    have t0 : wn.cell? ⟨g3, 0, none⟩ = some (.int .i64 4) := blk_cell HN.out.b3 rfl
    have t1 : wn.cell? ⟨g3, 1, none⟩ = some (.int .i64 m) := blk_cell HN.out.b3 rfl
    have t2 : wn.cell? ⟨g3, 2, none⟩ = some (.int .u32 0) := blk_cell HN.out.b3 rfl
    have t3 : wn.cell? ⟨g3, 3, none⟩ = some (.int .u32 0) := blk_cell HN.out.b3 rfl
    have z1 : wn.frozen? ⟨g3, 1, none⟩ = false := blk_free HN.out.b3
    have HT := Hid.in (HN.out.set3 1 (.int .i64 (-1)))
    go_wp2_with fail
    refine (R4.out _).mono ?_
    rintro r w4 ⟨rfl, hb4⟩
    have H4 := Hid.in (HT.out.step hb4)
    clear hb4 t0 t1 t2 t3 z1 HT HN
    have p0 : w4.cell? ⟨A, 0, none⟩ = some (.int .i64 4) := blk_cell H4.out.bA rfl
    go_wp2_with fail
    refine (progRuns_any w4 sa (HE.out.below H4.out.be)).mono ?_
    rintro r w7 ⟨rfl, hb7⟩
    have HB7 := Hid.in (bstep H4.out.be (Nat.le_refl _) hb7)
    clear hb7
    go_wp2
    go_ret
    exact ⟨rfl, HB7.out⟩
  · as_aux_lemma =>
    obtain ⟨rfl, a0, a1, rfl, rfl⟩ := h
    have eU : U ≠ 0 := by have h1 := HU.out; omega
    have eV : V ≠ 0 := by have h1 := HV.out; omega
    have R1 : Hid (∀ W, Calls Tryd.prog 16 #[.agg #[.int .i64 1, .int .i64 a, .int .u32 0, .int .u32 U], .int .i64 m] W fun r w' => r = .returned (.bool false) ∧ Below W.heap.size W w') := Hid.in (fun W => by
      have h := right_any 1 a 0 U m W
      rwa [show rt (1, a, 0, U) m = false from rt_no _ _ (by simp <;> omega)] at h)
    have R2 : Hid (∀ W, Calls Tryd.prog 16 #[.agg #[.int .i64 1, .int .i64 a, .int .u32 V, .int .u32 0], .int .i64 m] W fun r w' => r = .returned (.bool false) ∧ Below W.heap.size W w') := Hid.in (fun W => by
      have h := right_any 1 a V 0 m W
      rwa [show rt (1, a, V, 0) m = false from rt_no _ _ (by simp <;> omega)] at h)
    have R3 : Hid (∀ W, Calls Tryd.prog 16 #[.agg #[.int .i64 1, .int .i64 m, .int .u32 0, .int .u32 0], .int .i64 m] W fun r w' => r = .returned (.bool false) ∧ Below W.heap.size W w') := Hid.in (fun W => by
      have h := right_any 1 m 0 0 m W
      rwa [show rt (1, m, 0, 0) m = false from rt_no _ _ (by simp <;> omega)] at h)
    have R4 : Hid (∀ W, Calls Tryd.prog 16 #[.agg #[.int .i64 1, .int .i64 (-1), .int .u32 0, .int .u32 0], .int .i64 m] W fun r w' => r = .returned (.bool false) ∧ Below W.heap.size W w') := Hid.in (fun W => by
      have h := right_any 1 (-1) 0 0 m W
      rwa [show rt (1, (-1), 0, 0) m = false from rt_no _ _ (by simp <;> omega)] at h)
    have R5 : Hid (∀ W, Calls Tryd.prog 16 #[.agg #[.int .i64 1, .int .i64 a, .int .u32 0, .int .u32 0], .int .i64 (a + 1)] W fun r w' => r = .returned (.bool true) ∧ Below W.heap.size W w') := Hid.in (fun W => by
      have h := right_any 1 a 0 0 (a + 1) W
      rwa [show rt (1, a, 0, 0) (a + 1) = true from (rt_iff _ _).2 (by simp <;> omega)] at h)
    have R6 : Hid (∀ W, Calls Tryd.prog 16 #[.agg #[.int .i64 1, .int .i64 a, .int .u32 0, .int .u32 0], .int .i64 a] W fun r w' => r = .returned (.bool false) ∧ Below W.heap.size W w') := Hid.in (fun W => by
      have h := right_any 1 a 0 0 a W
      rwa [show rt (1, a, 0, 0) a = false from rt_no _ _ (by simp <;> omega)] at h)
    clear eU eV HU HV
    have p0 : ∀ n : Kin (NS w A g1 g2 g3 #[.int .i64 1, .int .i64 a, .int .u32 0, .int .u32 0] #[.int .i64 1, .int .i64 a, .int .u32 0, .int .u32 U] #[.int .i64 1, .int .i64 a, .int .u32 V, .int .u32 0] #[.int .i64 1, .int .i64 m, .int .u32 0, .int .u32 0]), n.of.cell? ⟨A, 0, none⟩ = some (.int .i64 1) := fun n => blk_cell n.in.bA rfl
    have p1 : ∀ n : Kin (NS w A g1 g2 g3 #[.int .i64 1, .int .i64 a, .int .u32 0, .int .u32 0] #[.int .i64 1, .int .i64 a, .int .u32 0, .int .u32 U] #[.int .i64 1, .int .i64 a, .int .u32 V, .int .u32 0] #[.int .i64 1, .int .i64 m, .int .u32 0, .int .u32 0]), n.of.cell? ⟨A, 1, none⟩ = some (.int .i64 a) := fun n => blk_cell n.in.bA rfl
    have p2 : ∀ n : Kin (NS w A g1 g2 g3 #[.int .i64 1, .int .i64 a, .int .u32 0, .int .u32 0] #[.int .i64 1, .int .i64 a, .int .u32 0, .int .u32 U] #[.int .i64 1, .int .i64 a, .int .u32 V, .int .u32 0] #[.int .i64 1, .int .i64 m, .int .u32 0, .int .u32 0]), n.of.cell? ⟨A, 2, none⟩ = some (.int .u32 0) := fun n => blk_cell n.in.bA rfl
    have p3 : ∀ n : Kin (NS w A g1 g2 g3 #[.int .i64 1, .int .i64 a, .int .u32 0, .int .u32 0] #[.int .i64 1, .int .i64 a, .int .u32 0, .int .u32 U] #[.int .i64 1, .int .i64 a, .int .u32 V, .int .u32 0] #[.int .i64 1, .int .i64 m, .int .u32 0, .int .u32 0]), n.of.cell? ⟨A, 3, none⟩ = some (.int .u32 0) := fun n => blk_cell n.in.bA rfl
    have q0 : ∀ n : Kin (NS w A g1 g2 g3 #[.int .i64 1, .int .i64 a, .int .u32 0, .int .u32 0] #[.int .i64 1, .int .i64 a, .int .u32 0, .int .u32 U] #[.int .i64 1, .int .i64 a, .int .u32 V, .int .u32 0] #[.int .i64 1, .int .i64 m, .int .u32 0, .int .u32 0]), n.of.cell? ⟨g1, 0, none⟩ = some (.int .i64 1) := fun n => blk_cell n.in.b1 rfl
    have q1 : ∀ n : Kin (NS w A g1 g2 g3 #[.int .i64 1, .int .i64 a, .int .u32 0, .int .u32 0] #[.int .i64 1, .int .i64 a, .int .u32 0, .int .u32 U] #[.int .i64 1, .int .i64 a, .int .u32 V, .int .u32 0] #[.int .i64 1, .int .i64 m, .int .u32 0, .int .u32 0]), n.of.cell? ⟨g1, 1, none⟩ = some (.int .i64 a) := fun n => blk_cell n.in.b1 rfl
    have q2 : ∀ n : Kin (NS w A g1 g2 g3 #[.int .i64 1, .int .i64 a, .int .u32 0, .int .u32 0] #[.int .i64 1, .int .i64 a, .int .u32 0, .int .u32 U] #[.int .i64 1, .int .i64 a, .int .u32 V, .int .u32 0] #[.int .i64 1, .int .i64 m, .int .u32 0, .int .u32 0]), n.of.cell? ⟨g1, 2, none⟩ = some (.int .u32 0) := fun n => blk_cell n.in.b1 rfl
    have q3 : ∀ n : Kin (NS w A g1 g2 g3 #[.int .i64 1, .int .i64 a, .int .u32 0, .int .u32 0] #[.int .i64 1, .int .i64 a, .int .u32 0, .int .u32 U] #[.int .i64 1, .int .i64 a, .int .u32 V, .int .u32 0] #[.int .i64 1, .int .i64 m, .int .u32 0, .int .u32 0]), n.of.cell? ⟨g1, 3, none⟩ = some (.int .u32 U) := fun n => blk_cell n.in.b1 rfl
    have r0 : ∀ n : Kin (NS w A g1 g2 g3 #[.int .i64 1, .int .i64 a, .int .u32 0, .int .u32 0] #[.int .i64 1, .int .i64 a, .int .u32 0, .int .u32 U] #[.int .i64 1, .int .i64 a, .int .u32 V, .int .u32 0] #[.int .i64 1, .int .i64 m, .int .u32 0, .int .u32 0]), n.of.cell? ⟨g2, 0, none⟩ = some (.int .i64 1) := fun n => blk_cell n.in.b2 rfl
    have r1 : ∀ n : Kin (NS w A g1 g2 g3 #[.int .i64 1, .int .i64 a, .int .u32 0, .int .u32 0] #[.int .i64 1, .int .i64 a, .int .u32 0, .int .u32 U] #[.int .i64 1, .int .i64 a, .int .u32 V, .int .u32 0] #[.int .i64 1, .int .i64 m, .int .u32 0, .int .u32 0]), n.of.cell? ⟨g2, 1, none⟩ = some (.int .i64 a) := fun n => blk_cell n.in.b2 rfl
    have r2 : ∀ n : Kin (NS w A g1 g2 g3 #[.int .i64 1, .int .i64 a, .int .u32 0, .int .u32 0] #[.int .i64 1, .int .i64 a, .int .u32 0, .int .u32 U] #[.int .i64 1, .int .i64 a, .int .u32 V, .int .u32 0] #[.int .i64 1, .int .i64 m, .int .u32 0, .int .u32 0]), n.of.cell? ⟨g2, 2, none⟩ = some (.int .u32 V) := fun n => blk_cell n.in.b2 rfl
    have r3 : ∀ n : Kin (NS w A g1 g2 g3 #[.int .i64 1, .int .i64 a, .int .u32 0, .int .u32 0] #[.int .i64 1, .int .i64 a, .int .u32 0, .int .u32 U] #[.int .i64 1, .int .i64 a, .int .u32 V, .int .u32 0] #[.int .i64 1, .int .i64 m, .int .u32 0, .int .u32 0]), n.of.cell? ⟨g2, 3, none⟩ = some (.int .u32 0) := fun n => blk_cell n.in.b2 rfl
    have s0 : ∀ n : Kin (NS w A g1 g2 g3 #[.int .i64 1, .int .i64 a, .int .u32 0, .int .u32 0] #[.int .i64 1, .int .i64 a, .int .u32 0, .int .u32 U] #[.int .i64 1, .int .i64 a, .int .u32 V, .int .u32 0] #[.int .i64 1, .int .i64 m, .int .u32 0, .int .u32 0]), n.of.cell? ⟨g3, 0, none⟩ = some (.int .i64 1) := fun n => blk_cell n.in.b3 rfl
    have s1 : ∀ n : Kin (NS w A g1 g2 g3 #[.int .i64 1, .int .i64 a, .int .u32 0, .int .u32 0] #[.int .i64 1, .int .i64 a, .int .u32 0, .int .u32 U] #[.int .i64 1, .int .i64 a, .int .u32 V, .int .u32 0] #[.int .i64 1, .int .i64 m, .int .u32 0, .int .u32 0]), n.of.cell? ⟨g3, 1, none⟩ = some (.int .i64 m) := fun n => blk_cell n.in.b3 rfl
    have s2 : ∀ n : Kin (NS w A g1 g2 g3 #[.int .i64 1, .int .i64 a, .int .u32 0, .int .u32 0] #[.int .i64 1, .int .i64 a, .int .u32 0, .int .u32 U] #[.int .i64 1, .int .i64 a, .int .u32 V, .int .u32 0] #[.int .i64 1, .int .i64 m, .int .u32 0, .int .u32 0]), n.of.cell? ⟨g3, 2, none⟩ = some (.int .u32 0) := fun n => blk_cell n.in.b3 rfl
    have s3 : ∀ n : Kin (NS w A g1 g2 g3 #[.int .i64 1, .int .i64 a, .int .u32 0, .int .u32 0] #[.int .i64 1, .int .i64 a, .int .u32 0, .int .u32 U] #[.int .i64 1, .int .i64 a, .int .u32 V, .int .u32 0] #[.int .i64 1, .int .i64 m, .int .u32 0, .int .u32 0]), n.of.cell? ⟨g3, 3, none⟩ = some (.int .u32 0) := fun n => blk_cell n.in.b3 rfl
    go_upto_region 6 with fail
    refine wp_region_kin (C := (NS w A g1 g2 g3 #[.int .i64 1, .int .i64 a, .int .u32 0, .int .u32 0] #[.int .i64 1, .int .i64 a, .int .u32 0, .int .u32 U] #[.int .i64 1, .int .i64 a, .int .u32 V, .int .u32 0] #[.int .i64 1, .int .i64 m, .int .u32 0, .int .u32 0])) (by kernel_rfl) (by kernel_rfl) (HS.out.step ((Below.refl _ _).drew)) (fun hne' => ?_)
    repeat (go_big_quiet_step (first | (go_at_call 16; with_reducible exact Kin.call _ (fun hc => (R1.out _).mono (fun _ _ hr => ⟨hr.1, hc.step hr.2⟩))) | (go_at_call 16; with_reducible exact Kin.call _ (fun hc => (R2.out _).mono (fun _ _ hr => ⟨hr.1, hc.step hr.2⟩))) | (go_at_call 16; with_reducible exact Kin.call _ (fun hc => (R3.out _).mono (fun _ _ hr => ⟨hr.1, hc.step hr.2⟩)))))
    refine wpQuiet_nil ?_
    rintro wn ⟨n, rfl⟩
    have HN := Hid.in n.in
    obtain ⟨wn, hwn⟩ : ∃ wn, n.of = wn := ⟨_, rfl⟩
    rw [hwn] at HN ⊢
    clear hwn n p0 p1 p2 p3 q0 q1 q2 q3 r0 r1 r2 r3 s0 s1 s2 s3 HS
    have t0 : wn.cell? ⟨g3, 0, none⟩ = some (.int .i64 1) := blk_cell HN.out.b3 rfl
    have t1 : wn.cell? ⟨g3, 1, none⟩ = some (.int .i64 m) := blk_cell HN.out.b3 rfl
    have t2 : wn.cell? ⟨g3, 2, none⟩ = some (.int .u32 0) := blk_cell HN.out.b3 rfl
    have t3 : wn.cell? ⟨g3, 3, none⟩ = some (.int .u32 0) := blk_cell HN.out.b3 rfl
    have z1 : wn.frozen? ⟨g3, 1, none⟩ = false := blk_free HN.out.b3
    have HT := Hid.in (HN.out.set3 1 (.int .i64 (-1)))
    go_wp2_with fail
    refine (R4.out _).mono ?_
    rintro r w4 ⟨rfl, hb4⟩
    have H4 := Hid.in (HT.out.step hb4)
    clear hb4 t0 t1 t2 t3 z1 HT HN
    have p0 : w4.cell? ⟨A, 0, none⟩ = some (.int .i64 1) := blk_cell H4.out.bA rfl
    have p1 : w4.cell? ⟨A, 1, none⟩ = some (.int .i64 a) := blk_cell H4.out.bA rfl
    have p2 : w4.cell? ⟨A, 2, none⟩ = some (.int .u32 0) := blk_cell H4.out.bA rfl
    have p3 : w4.cell? ⟨A, 3, none⟩ = some (.int .u32 0) := blk_cell H4.out.bA rfl
    go_wp2_with fail
    refine (R5.out _).mono ?_
    rintro r w5 ⟨rfl, hb5⟩
    have H5 := Hid.in (H4.out.step hb5)
    clear hb5 p0 p1 p2 p3 H4
    have p0 : w5.cell? ⟨A, 0, none⟩ = some (.int .i64 1) := blk_cell H5.out.bA rfl
    have p1 : w5.cell? ⟨A, 1, none⟩ = some (.int .i64 a) := blk_cell H5.out.bA rfl
    have p2 : w5.cell? ⟨A, 2, none⟩ = some (.int .u32 0) := blk_cell H5.out.bA rfl
    have p3 : w5.cell? ⟨A, 3, none⟩ = some (.int .u32 0) := blk_cell H5.out.bA rfl
    go_wp2_with fail
    refine (R6.out _).mono ?_
    rintro r w6 ⟨rfl, hb6⟩
    have H6 := Hid.in (H5.out.step hb6)
    clear hb6 p0 p1 p2 p3 H5
    go_wp2_with fail
    refine (progRuns_any w6 sa (HE.out.below H6.out.be)).mono ?_
    rintro r w7 ⟨rfl, hb7⟩
    have HB7 := Hid.in (bstep H6.out.be (Nat.le_refl _) hb7)
    clear hb7
    go_wp2
    go_ret
    exact ⟨rfl, HB7.out⟩
  · as_aux_lemma =>
    obtain ⟨rfl, a0, a1, rfl⟩ := h
    have eU : U ≠ 0 := by have h1 := HU.out; omega
    have eV : True := by have h1 := HV.out; trivial
    have R1 : Hid (∀ W, Calls Tryd.prog 16 #[.agg #[.int .i64 2, .int .i64 a, .int .u32 v, .int .u32 U], .int .i64 m] W fun r w' => r = .returned (.bool false) ∧ Below W.heap.size W w') := Hid.in (fun W => by
      have h := right_any 2 a v U m W
      rwa [show rt (2, a, v, U) m = false from rt_no _ _ (by simp <;> omega)] at h)
    have R2 : Hid (∀ W, Calls Tryd.prog 16 #[.agg #[.int .i64 2, .int .i64 a, .int .u32 V, .int .u32 0], .int .i64 m] W fun r w' => r = .returned (.bool true) ∧ Below W.heap.size W w') := Hid.in (fun W => by
      have h := right_any 2 a V 0 m W
      rwa [show rt (2, a, V, 0) m = true from (rt_iff _ _).2 (by simp <;> omega)] at h)
    have R3 : Hid (∀ W, Calls Tryd.prog 16 #[.agg #[.int .i64 2, .int .i64 m, .int .u32 v, .int .u32 0], .int .i64 m] W fun r w' => r = .returned (.bool false) ∧ Below W.heap.size W w') := Hid.in (fun W => by
      have h := right_any 2 m v 0 m W
      rwa [show rt (2, m, v, 0) m = false from rt_no _ _ (by simp <;> omega)] at h)
    have R4 : Hid (∀ W, Calls Tryd.prog 16 #[.agg #[.int .i64 2, .int .i64 (-1), .int .u32 v, .int .u32 0], .int .i64 m] W fun r w' => r = .returned (.bool false) ∧ Below W.heap.size W w') := Hid.in (fun W => by
      have h := right_any 2 (-1) v 0 m W
      rwa [show rt (2, (-1), v, 0) m = false from rt_no _ _ (by simp <;> omega)] at h)
    have R5 : Hid (∀ W, Calls Tryd.prog 16 #[.agg #[.int .i64 2, .int .i64 a, .int .u32 v, .int .u32 0], .int .i64 (a + 1)] W fun r w' => r = .returned (.bool true) ∧ Below W.heap.size W w') := Hid.in (fun W => by
      have h := right_any 2 a v 0 (a + 1) W
      rwa [show rt (2, a, v, 0) (a + 1) = true from (rt_iff _ _).2 (by simp <;> omega)] at h)
    have R6 : Hid (∀ W, Calls Tryd.prog 16 #[.agg #[.int .i64 2, .int .i64 a, .int .u32 v, .int .u32 0], .int .i64 a] W fun r w' => r = .returned (.bool false) ∧ Below W.heap.size W w') := Hid.in (fun W => by
      have h := right_any 2 a v 0 a W
      rwa [show rt (2, a, v, 0) a = false from rt_no _ _ (by simp <;> omega)] at h)
    clear eU eV HU HV
    have p0 : ∀ n : Kin (NS w A g1 g2 g3 #[.int .i64 2, .int .i64 a, .int .u32 v, .int .u32 0] #[.int .i64 2, .int .i64 a, .int .u32 v, .int .u32 U] #[.int .i64 2, .int .i64 a, .int .u32 V, .int .u32 0] #[.int .i64 2, .int .i64 m, .int .u32 v, .int .u32 0]), n.of.cell? ⟨A, 0, none⟩ = some (.int .i64 2) := fun n => blk_cell n.in.bA rfl
    have p1 : ∀ n : Kin (NS w A g1 g2 g3 #[.int .i64 2, .int .i64 a, .int .u32 v, .int .u32 0] #[.int .i64 2, .int .i64 a, .int .u32 v, .int .u32 U] #[.int .i64 2, .int .i64 a, .int .u32 V, .int .u32 0] #[.int .i64 2, .int .i64 m, .int .u32 v, .int .u32 0]), n.of.cell? ⟨A, 1, none⟩ = some (.int .i64 a) := fun n => blk_cell n.in.bA rfl
    have p2 : ∀ n : Kin (NS w A g1 g2 g3 #[.int .i64 2, .int .i64 a, .int .u32 v, .int .u32 0] #[.int .i64 2, .int .i64 a, .int .u32 v, .int .u32 U] #[.int .i64 2, .int .i64 a, .int .u32 V, .int .u32 0] #[.int .i64 2, .int .i64 m, .int .u32 v, .int .u32 0]), n.of.cell? ⟨A, 2, none⟩ = some (.int .u32 v) := fun n => blk_cell n.in.bA rfl
    have p3 : ∀ n : Kin (NS w A g1 g2 g3 #[.int .i64 2, .int .i64 a, .int .u32 v, .int .u32 0] #[.int .i64 2, .int .i64 a, .int .u32 v, .int .u32 U] #[.int .i64 2, .int .i64 a, .int .u32 V, .int .u32 0] #[.int .i64 2, .int .i64 m, .int .u32 v, .int .u32 0]), n.of.cell? ⟨A, 3, none⟩ = some (.int .u32 0) := fun n => blk_cell n.in.bA rfl
    have q0 : ∀ n : Kin (NS w A g1 g2 g3 #[.int .i64 2, .int .i64 a, .int .u32 v, .int .u32 0] #[.int .i64 2, .int .i64 a, .int .u32 v, .int .u32 U] #[.int .i64 2, .int .i64 a, .int .u32 V, .int .u32 0] #[.int .i64 2, .int .i64 m, .int .u32 v, .int .u32 0]), n.of.cell? ⟨g1, 0, none⟩ = some (.int .i64 2) := fun n => blk_cell n.in.b1 rfl
    have q1 : ∀ n : Kin (NS w A g1 g2 g3 #[.int .i64 2, .int .i64 a, .int .u32 v, .int .u32 0] #[.int .i64 2, .int .i64 a, .int .u32 v, .int .u32 U] #[.int .i64 2, .int .i64 a, .int .u32 V, .int .u32 0] #[.int .i64 2, .int .i64 m, .int .u32 v, .int .u32 0]), n.of.cell? ⟨g1, 1, none⟩ = some (.int .i64 a) := fun n => blk_cell n.in.b1 rfl
    have q2 : ∀ n : Kin (NS w A g1 g2 g3 #[.int .i64 2, .int .i64 a, .int .u32 v, .int .u32 0] #[.int .i64 2, .int .i64 a, .int .u32 v, .int .u32 U] #[.int .i64 2, .int .i64 a, .int .u32 V, .int .u32 0] #[.int .i64 2, .int .i64 m, .int .u32 v, .int .u32 0]), n.of.cell? ⟨g1, 2, none⟩ = some (.int .u32 v) := fun n => blk_cell n.in.b1 rfl
    have q3 : ∀ n : Kin (NS w A g1 g2 g3 #[.int .i64 2, .int .i64 a, .int .u32 v, .int .u32 0] #[.int .i64 2, .int .i64 a, .int .u32 v, .int .u32 U] #[.int .i64 2, .int .i64 a, .int .u32 V, .int .u32 0] #[.int .i64 2, .int .i64 m, .int .u32 v, .int .u32 0]), n.of.cell? ⟨g1, 3, none⟩ = some (.int .u32 U) := fun n => blk_cell n.in.b1 rfl
    have r0 : ∀ n : Kin (NS w A g1 g2 g3 #[.int .i64 2, .int .i64 a, .int .u32 v, .int .u32 0] #[.int .i64 2, .int .i64 a, .int .u32 v, .int .u32 U] #[.int .i64 2, .int .i64 a, .int .u32 V, .int .u32 0] #[.int .i64 2, .int .i64 m, .int .u32 v, .int .u32 0]), n.of.cell? ⟨g2, 0, none⟩ = some (.int .i64 2) := fun n => blk_cell n.in.b2 rfl
    have r1 : ∀ n : Kin (NS w A g1 g2 g3 #[.int .i64 2, .int .i64 a, .int .u32 v, .int .u32 0] #[.int .i64 2, .int .i64 a, .int .u32 v, .int .u32 U] #[.int .i64 2, .int .i64 a, .int .u32 V, .int .u32 0] #[.int .i64 2, .int .i64 m, .int .u32 v, .int .u32 0]), n.of.cell? ⟨g2, 1, none⟩ = some (.int .i64 a) := fun n => blk_cell n.in.b2 rfl
    have r2 : ∀ n : Kin (NS w A g1 g2 g3 #[.int .i64 2, .int .i64 a, .int .u32 v, .int .u32 0] #[.int .i64 2, .int .i64 a, .int .u32 v, .int .u32 U] #[.int .i64 2, .int .i64 a, .int .u32 V, .int .u32 0] #[.int .i64 2, .int .i64 m, .int .u32 v, .int .u32 0]), n.of.cell? ⟨g2, 2, none⟩ = some (.int .u32 V) := fun n => blk_cell n.in.b2 rfl
    have r3 : ∀ n : Kin (NS w A g1 g2 g3 #[.int .i64 2, .int .i64 a, .int .u32 v, .int .u32 0] #[.int .i64 2, .int .i64 a, .int .u32 v, .int .u32 U] #[.int .i64 2, .int .i64 a, .int .u32 V, .int .u32 0] #[.int .i64 2, .int .i64 m, .int .u32 v, .int .u32 0]), n.of.cell? ⟨g2, 3, none⟩ = some (.int .u32 0) := fun n => blk_cell n.in.b2 rfl
    have s0 : ∀ n : Kin (NS w A g1 g2 g3 #[.int .i64 2, .int .i64 a, .int .u32 v, .int .u32 0] #[.int .i64 2, .int .i64 a, .int .u32 v, .int .u32 U] #[.int .i64 2, .int .i64 a, .int .u32 V, .int .u32 0] #[.int .i64 2, .int .i64 m, .int .u32 v, .int .u32 0]), n.of.cell? ⟨g3, 0, none⟩ = some (.int .i64 2) := fun n => blk_cell n.in.b3 rfl
    have s1 : ∀ n : Kin (NS w A g1 g2 g3 #[.int .i64 2, .int .i64 a, .int .u32 v, .int .u32 0] #[.int .i64 2, .int .i64 a, .int .u32 v, .int .u32 U] #[.int .i64 2, .int .i64 a, .int .u32 V, .int .u32 0] #[.int .i64 2, .int .i64 m, .int .u32 v, .int .u32 0]), n.of.cell? ⟨g3, 1, none⟩ = some (.int .i64 m) := fun n => blk_cell n.in.b3 rfl
    have s2 : ∀ n : Kin (NS w A g1 g2 g3 #[.int .i64 2, .int .i64 a, .int .u32 v, .int .u32 0] #[.int .i64 2, .int .i64 a, .int .u32 v, .int .u32 U] #[.int .i64 2, .int .i64 a, .int .u32 V, .int .u32 0] #[.int .i64 2, .int .i64 m, .int .u32 v, .int .u32 0]), n.of.cell? ⟨g3, 2, none⟩ = some (.int .u32 v) := fun n => blk_cell n.in.b3 rfl
    have s3 : ∀ n : Kin (NS w A g1 g2 g3 #[.int .i64 2, .int .i64 a, .int .u32 v, .int .u32 0] #[.int .i64 2, .int .i64 a, .int .u32 v, .int .u32 U] #[.int .i64 2, .int .i64 a, .int .u32 V, .int .u32 0] #[.int .i64 2, .int .i64 m, .int .u32 v, .int .u32 0]), n.of.cell? ⟨g3, 3, none⟩ = some (.int .u32 0) := fun n => blk_cell n.in.b3 rfl
    go_upto_region 6 with fail
    refine wp_region_kin (C := (NS w A g1 g2 g3 #[.int .i64 2, .int .i64 a, .int .u32 v, .int .u32 0] #[.int .i64 2, .int .i64 a, .int .u32 v, .int .u32 U] #[.int .i64 2, .int .i64 a, .int .u32 V, .int .u32 0] #[.int .i64 2, .int .i64 m, .int .u32 v, .int .u32 0])) (by kernel_rfl) (by kernel_rfl) (HS.out.step ((Below.refl _ _).drew)) (fun hne' => ?_)
    repeat (go_big_quiet_step (first | (go_at_call 16; with_reducible exact Kin.call _ (fun hc => (R1.out _).mono (fun _ _ hr => ⟨hr.1, hc.step hr.2⟩))) | (go_at_call 16; with_reducible exact Kin.call _ (fun hc => (R2.out _).mono (fun _ _ hr => ⟨hr.1, hc.step hr.2⟩))) | (go_at_call 16; with_reducible exact Kin.call _ (fun hc => (R3.out _).mono (fun _ _ hr => ⟨hr.1, hc.step hr.2⟩)))))
    refine wpQuiet_nil ?_
    rintro wn ⟨n, rfl⟩
    have HN := Hid.in n.in
    obtain ⟨wn, hwn⟩ : ∃ wn, n.of = wn := ⟨_, rfl⟩
    rw [hwn] at HN ⊢
    clear hwn n p0 p1 p2 p3 q0 q1 q2 q3 r0 r1 r2 r3 s0 s1 s2 s3 HS
    have t0 : wn.cell? ⟨g3, 0, none⟩ = some (.int .i64 2) := blk_cell HN.out.b3 rfl
    have t1 : wn.cell? ⟨g3, 1, none⟩ = some (.int .i64 m) := blk_cell HN.out.b3 rfl
    have t2 : wn.cell? ⟨g3, 2, none⟩ = some (.int .u32 v) := blk_cell HN.out.b3 rfl
    have t3 : wn.cell? ⟨g3, 3, none⟩ = some (.int .u32 0) := blk_cell HN.out.b3 rfl
    have z1 : wn.frozen? ⟨g3, 1, none⟩ = false := blk_free HN.out.b3
    have HT := Hid.in (HN.out.set3 1 (.int .i64 (-1)))
    go_wp2_with fail
    refine (R4.out _).mono ?_
    rintro r w4 ⟨rfl, hb4⟩
    have H4 := Hid.in (HT.out.step hb4)
    clear hb4 t0 t1 t2 t3 z1 HT HN
    have p0 : w4.cell? ⟨A, 0, none⟩ = some (.int .i64 2) := blk_cell H4.out.bA rfl
    have p1 : w4.cell? ⟨A, 1, none⟩ = some (.int .i64 a) := blk_cell H4.out.bA rfl
    have p2 : w4.cell? ⟨A, 2, none⟩ = some (.int .u32 v) := blk_cell H4.out.bA rfl
    have p3 : w4.cell? ⟨A, 3, none⟩ = some (.int .u32 0) := blk_cell H4.out.bA rfl
    go_wp2_with fail
    refine (R5.out _).mono ?_
    rintro r w5 ⟨rfl, hb5⟩
    have H5 := Hid.in (H4.out.step hb5)
    clear hb5 p0 p1 p2 p3 H4
    have p0 : w5.cell? ⟨A, 0, none⟩ = some (.int .i64 2) := blk_cell H5.out.bA rfl
    have p1 : w5.cell? ⟨A, 1, none⟩ = some (.int .i64 a) := blk_cell H5.out.bA rfl
    have p2 : w5.cell? ⟨A, 2, none⟩ = some (.int .u32 v) := blk_cell H5.out.bA rfl
    have p3 : w5.cell? ⟨A, 3, none⟩ = some (.int .u32 0) := blk_cell H5.out.bA rfl
    go_wp2_with fail
    refine (R6.out _).mono ?_
    rintro r w6 ⟨rfl, hb6⟩
    have H6 := Hid.in (H5.out.step hb6)
    clear hb6 p0 p1 p2 p3 H5
    go_wp2_with fail
    refine (progRuns_any w6 sa (HE.out.below H6.out.be)).mono ?_
    rintro r w7 ⟨rfl, hb7⟩
    have HB7 := Hid.in (bstep H6.out.be (Nat.le_refl _) hb7)
    clear hb7
    go_wp2
    go_ret
    exact ⟨rfl, HB7.out⟩
  · as_aux_lemma =>
    obtain ⟨rfl, a0, a1⟩ := h
    have eU : True := by have h1 := HU.out; trivial
    have eV : True := by have h1 := HV.out; trivial
    have R1 : Hid (∀ W, Calls Tryd.prog 16 #[.agg #[.int .i64 3, .int .i64 a, .int .u32 v, .int .u32 U], .int .i64 m] W fun r w' => r = .returned (.bool true) ∧ Below W.heap.size W w') := Hid.in (fun W => by
      have h := right_any 3 a v U m W
      rwa [show rt (3, a, v, U) m = true from (rt_iff _ _).2 (by simp <;> omega)] at h)
    have R2 : Hid (∀ W, Calls Tryd.prog 16 #[.agg #[.int .i64 3, .int .i64 a, .int .u32 V, .int .u32 o], .int .i64 m] W fun r w' => r = .returned (.bool true) ∧ Below W.heap.size W w') := Hid.in (fun W => by
      have h := right_any 3 a V o m W
      rwa [show rt (3, a, V, o) m = true from (rt_iff _ _).2 (by simp <;> omega)] at h)
    have R3 : Hid (∀ W, Calls Tryd.prog 16 #[.agg #[.int .i64 3, .int .i64 m, .int .u32 v, .int .u32 o], .int .i64 m] W fun r w' => r = .returned (.bool false) ∧ Below W.heap.size W w') := Hid.in (fun W => by
      have h := right_any 3 m v o m W
      rwa [show rt (3, m, v, o) m = false from rt_no _ _ (by simp <;> omega)] at h)
    have R4 : Hid (∀ W, Calls Tryd.prog 16 #[.agg #[.int .i64 3, .int .i64 (-1), .int .u32 v, .int .u32 o], .int .i64 m] W fun r w' => r = .returned (.bool false) ∧ Below W.heap.size W w') := Hid.in (fun W => by
      have h := right_any 3 (-1) v o m W
      rwa [show rt (3, (-1), v, o) m = false from rt_no _ _ (by simp <;> omega)] at h)
    have R5 : Hid (∀ W, Calls Tryd.prog 16 #[.agg #[.int .i64 3, .int .i64 a, .int .u32 v, .int .u32 o], .int .i64 (a + 1)] W fun r w' => r = .returned (.bool true) ∧ Below W.heap.size W w') := Hid.in (fun W => by
      have h := right_any 3 a v o (a + 1) W
      rwa [show rt (3, a, v, o) (a + 1) = true from (rt_iff _ _).2 (by simp <;> omega)] at h)
    have R6 : Hid (∀ W, Calls Tryd.prog 16 #[.agg #[.int .i64 3, .int .i64 a, .int .u32 v, .int .u32 o], .int .i64 a] W fun r w' => r = .returned (.bool false) ∧ Below W.heap.size W w') := Hid.in (fun W => by
      have h := right_any 3 a v o a W
      rwa [show rt (3, a, v, o) a = false from rt_no _ _ (by simp <;> omega)] at h)
    clear eU eV HU HV
    have p0 : ∀ n : Kin (NS w A g1 g2 g3 #[.int .i64 3, .int .i64 a, .int .u32 v, .int .u32 o] #[.int .i64 3, .int .i64 a, .int .u32 v, .int .u32 U] #[.int .i64 3, .int .i64 a, .int .u32 V, .int .u32 o] #[.int .i64 3, .int .i64 m, .int .u32 v, .int .u32 o]), n.of.cell? ⟨A, 0, none⟩ = some (.int .i64 3) := fun n => blk_cell n.in.bA rfl
    have p1 : ∀ n : Kin (NS w A g1 g2 g3 #[.int .i64 3, .int .i64 a, .int .u32 v, .int .u32 o] #[.int .i64 3, .int .i64 a, .int .u32 v, .int .u32 U] #[.int .i64 3, .int .i64 a, .int .u32 V, .int .u32 o] #[.int .i64 3, .int .i64 m, .int .u32 v, .int .u32 o]), n.of.cell? ⟨A, 1, none⟩ = some (.int .i64 a) := fun n => blk_cell n.in.bA rfl
    have p2 : ∀ n : Kin (NS w A g1 g2 g3 #[.int .i64 3, .int .i64 a, .int .u32 v, .int .u32 o] #[.int .i64 3, .int .i64 a, .int .u32 v, .int .u32 U] #[.int .i64 3, .int .i64 a, .int .u32 V, .int .u32 o] #[.int .i64 3, .int .i64 m, .int .u32 v, .int .u32 o]), n.of.cell? ⟨A, 2, none⟩ = some (.int .u32 v) := fun n => blk_cell n.in.bA rfl
    have p3 : ∀ n : Kin (NS w A g1 g2 g3 #[.int .i64 3, .int .i64 a, .int .u32 v, .int .u32 o] #[.int .i64 3, .int .i64 a, .int .u32 v, .int .u32 U] #[.int .i64 3, .int .i64 a, .int .u32 V, .int .u32 o] #[.int .i64 3, .int .i64 m, .int .u32 v, .int .u32 o]), n.of.cell? ⟨A, 3, none⟩ = some (.int .u32 o) := fun n => blk_cell n.in.bA rfl
    have q0 : ∀ n : Kin (NS w A g1 g2 g3 #[.int .i64 3, .int .i64 a, .int .u32 v, .int .u32 o] #[.int .i64 3, .int .i64 a, .int .u32 v, .int .u32 U] #[.int .i64 3, .int .i64 a, .int .u32 V, .int .u32 o] #[.int .i64 3, .int .i64 m, .int .u32 v, .int .u32 o]), n.of.cell? ⟨g1, 0, none⟩ = some (.int .i64 3) := fun n => blk_cell n.in.b1 rfl
    have q1 : ∀ n : Kin (NS w A g1 g2 g3 #[.int .i64 3, .int .i64 a, .int .u32 v, .int .u32 o] #[.int .i64 3, .int .i64 a, .int .u32 v, .int .u32 U] #[.int .i64 3, .int .i64 a, .int .u32 V, .int .u32 o] #[.int .i64 3, .int .i64 m, .int .u32 v, .int .u32 o]), n.of.cell? ⟨g1, 1, none⟩ = some (.int .i64 a) := fun n => blk_cell n.in.b1 rfl
    have q2 : ∀ n : Kin (NS w A g1 g2 g3 #[.int .i64 3, .int .i64 a, .int .u32 v, .int .u32 o] #[.int .i64 3, .int .i64 a, .int .u32 v, .int .u32 U] #[.int .i64 3, .int .i64 a, .int .u32 V, .int .u32 o] #[.int .i64 3, .int .i64 m, .int .u32 v, .int .u32 o]), n.of.cell? ⟨g1, 2, none⟩ = some (.int .u32 v) := fun n => blk_cell n.in.b1 rfl
    have q3 : ∀ n : Kin (NS w A g1 g2 g3 #[.int .i64 3, .int .i64 a, .int .u32 v, .int .u32 o] #[.int .i64 3, .int .i64 a, .int .u32 v, .int .u32 U] #[.int .i64 3, .int .i64 a, .int .u32 V, .int .u32 o] #[.int .i64 3, .int .i64 m, .int .u32 v, .int .u32 o]), n.of.cell? ⟨g1, 3, none⟩ = some (.int .u32 U) := fun n => blk_cell n.in.b1 rfl
    have r0 : ∀ n : Kin (NS w A g1 g2 g3 #[.int .i64 3, .int .i64 a, .int .u32 v, .int .u32 o] #[.int .i64 3, .int .i64 a, .int .u32 v, .int .u32 U] #[.int .i64 3, .int .i64 a, .int .u32 V, .int .u32 o] #[.int .i64 3, .int .i64 m, .int .u32 v, .int .u32 o]), n.of.cell? ⟨g2, 0, none⟩ = some (.int .i64 3) := fun n => blk_cell n.in.b2 rfl
    have r1 : ∀ n : Kin (NS w A g1 g2 g3 #[.int .i64 3, .int .i64 a, .int .u32 v, .int .u32 o] #[.int .i64 3, .int .i64 a, .int .u32 v, .int .u32 U] #[.int .i64 3, .int .i64 a, .int .u32 V, .int .u32 o] #[.int .i64 3, .int .i64 m, .int .u32 v, .int .u32 o]), n.of.cell? ⟨g2, 1, none⟩ = some (.int .i64 a) := fun n => blk_cell n.in.b2 rfl
    have r2 : ∀ n : Kin (NS w A g1 g2 g3 #[.int .i64 3, .int .i64 a, .int .u32 v, .int .u32 o] #[.int .i64 3, .int .i64 a, .int .u32 v, .int .u32 U] #[.int .i64 3, .int .i64 a, .int .u32 V, .int .u32 o] #[.int .i64 3, .int .i64 m, .int .u32 v, .int .u32 o]), n.of.cell? ⟨g2, 2, none⟩ = some (.int .u32 V) := fun n => blk_cell n.in.b2 rfl
    have r3 : ∀ n : Kin (NS w A g1 g2 g3 #[.int .i64 3, .int .i64 a, .int .u32 v, .int .u32 o] #[.int .i64 3, .int .i64 a, .int .u32 v, .int .u32 U] #[.int .i64 3, .int .i64 a, .int .u32 V, .int .u32 o] #[.int .i64 3, .int .i64 m, .int .u32 v, .int .u32 o]), n.of.cell? ⟨g2, 3, none⟩ = some (.int .u32 o) := fun n => blk_cell n.in.b2 rfl
    have s0 : ∀ n : Kin (NS w A g1 g2 g3 #[.int .i64 3, .int .i64 a, .int .u32 v, .int .u32 o] #[.int .i64 3, .int .i64 a, .int .u32 v, .int .u32 U] #[.int .i64 3, .int .i64 a, .int .u32 V, .int .u32 o] #[.int .i64 3, .int .i64 m, .int .u32 v, .int .u32 o]), n.of.cell? ⟨g3, 0, none⟩ = some (.int .i64 3) := fun n => blk_cell n.in.b3 rfl
    have s1 : ∀ n : Kin (NS w A g1 g2 g3 #[.int .i64 3, .int .i64 a, .int .u32 v, .int .u32 o] #[.int .i64 3, .int .i64 a, .int .u32 v, .int .u32 U] #[.int .i64 3, .int .i64 a, .int .u32 V, .int .u32 o] #[.int .i64 3, .int .i64 m, .int .u32 v, .int .u32 o]), n.of.cell? ⟨g3, 1, none⟩ = some (.int .i64 m) := fun n => blk_cell n.in.b3 rfl
    have s2 : ∀ n : Kin (NS w A g1 g2 g3 #[.int .i64 3, .int .i64 a, .int .u32 v, .int .u32 o] #[.int .i64 3, .int .i64 a, .int .u32 v, .int .u32 U] #[.int .i64 3, .int .i64 a, .int .u32 V, .int .u32 o] #[.int .i64 3, .int .i64 m, .int .u32 v, .int .u32 o]), n.of.cell? ⟨g3, 2, none⟩ = some (.int .u32 v) := fun n => blk_cell n.in.b3 rfl
    have s3 : ∀ n : Kin (NS w A g1 g2 g3 #[.int .i64 3, .int .i64 a, .int .u32 v, .int .u32 o] #[.int .i64 3, .int .i64 a, .int .u32 v, .int .u32 U] #[.int .i64 3, .int .i64 a, .int .u32 V, .int .u32 o] #[.int .i64 3, .int .i64 m, .int .u32 v, .int .u32 o]), n.of.cell? ⟨g3, 3, none⟩ = some (.int .u32 o) := fun n => blk_cell n.in.b3 rfl
    go_upto_region 6 with fail
    refine wp_region_kin (C := (NS w A g1 g2 g3 #[.int .i64 3, .int .i64 a, .int .u32 v, .int .u32 o] #[.int .i64 3, .int .i64 a, .int .u32 v, .int .u32 U] #[.int .i64 3, .int .i64 a, .int .u32 V, .int .u32 o] #[.int .i64 3, .int .i64 m, .int .u32 v, .int .u32 o])) (by kernel_rfl) (by kernel_rfl) (HS.out.step ((Below.refl _ _).drew)) (fun hne' => ?_)
    repeat (go_big_quiet_step (first | (go_at_call 16; with_reducible exact Kin.call _ (fun hc => (R1.out _).mono (fun _ _ hr => ⟨hr.1, hc.step hr.2⟩))) | (go_at_call 16; with_reducible exact Kin.call _ (fun hc => (R2.out _).mono (fun _ _ hr => ⟨hr.1, hc.step hr.2⟩))) | (go_at_call 16; with_reducible exact Kin.call _ (fun hc => (R3.out _).mono (fun _ _ hr => ⟨hr.1, hc.step hr.2⟩)))))
    refine wpQuiet_nil ?_
    rintro wn ⟨n, rfl⟩
    have HN := Hid.in n.in
    obtain ⟨wn, hwn⟩ : ∃ wn, n.of = wn := ⟨_, rfl⟩
    rw [hwn] at HN ⊢
    clear hwn n p0 p1 p2 p3 q0 q1 q2 q3 r0 r1 r2 r3 s0 s1 s2 s3 HS
    have t0 : wn.cell? ⟨g3, 0, none⟩ = some (.int .i64 3) := blk_cell HN.out.b3 rfl
    have t1 : wn.cell? ⟨g3, 1, none⟩ = some (.int .i64 m) := blk_cell HN.out.b3 rfl
    have t2 : wn.cell? ⟨g3, 2, none⟩ = some (.int .u32 v) := blk_cell HN.out.b3 rfl
    have t3 : wn.cell? ⟨g3, 3, none⟩ = some (.int .u32 o) := blk_cell HN.out.b3 rfl
    have z1 : wn.frozen? ⟨g3, 1, none⟩ = false := blk_free HN.out.b3
    have HT := Hid.in (HN.out.set3 1 (.int .i64 (-1)))
    go_wp2_with fail
    refine (R4.out _).mono ?_
    rintro r w4 ⟨rfl, hb4⟩
    have H4 := Hid.in (HT.out.step hb4)
    clear hb4 t0 t1 t2 t3 z1 HT HN
    have p0 : w4.cell? ⟨A, 0, none⟩ = some (.int .i64 3) := blk_cell H4.out.bA rfl
    have p1 : w4.cell? ⟨A, 1, none⟩ = some (.int .i64 a) := blk_cell H4.out.bA rfl
    have p2 : w4.cell? ⟨A, 2, none⟩ = some (.int .u32 v) := blk_cell H4.out.bA rfl
    have p3 : w4.cell? ⟨A, 3, none⟩ = some (.int .u32 o) := blk_cell H4.out.bA rfl
    go_wp2_with fail
    refine (R5.out _).mono ?_
    rintro r w5 ⟨rfl, hb5⟩
    have H5 := Hid.in (H4.out.step hb5)
    clear hb5 p0 p1 p2 p3 H4
    have p0 : w5.cell? ⟨A, 0, none⟩ = some (.int .i64 3) := blk_cell H5.out.bA rfl
    have p1 : w5.cell? ⟨A, 1, none⟩ = some (.int .i64 a) := blk_cell H5.out.bA rfl
    have p2 : w5.cell? ⟨A, 2, none⟩ = some (.int .u32 v) := blk_cell H5.out.bA rfl
    have p3 : w5.cell? ⟨A, 3, none⟩ = some (.int .u32 o) := blk_cell H5.out.bA rfl
    go_wp2_with fail
    refine (R6.out _).mono ?_
    rintro r w6 ⟨rfl, hb6⟩
    have H6 := Hid.in (H5.out.step hb6)
    clear hb6 p0 p1 p2 p3 H5
    go_wp2_with fail
    refine (progRuns_any w6 sa (HE.out.below H6.out.be)).mono ?_
    rintro r w7 ⟨rfl, hb7⟩
    have HB7 := Hid.in (bstep H6.out.be (Nat.le_refl _) hb7)
    clear hb7
    go_wp2
    go_ret
    exact ⟨rfl, HB7.out⟩

set_option maxHeartbeats 3200000 in
theorem progNames_no (w : World) (sa : Nat → Addr) (hE : Env10 w sa) (k a v o n x m : Int) (hm : wI n 1 128 = m) (h : rt (k, a, v, o) m = false ∨ rt (k, a, v, o) m = true ∧ x = 0) : Calls Tryd.prog 6 #[.agg #[.int .i64 k, .int .i64 a, .int .u32 v, .int .u32 o], .int .i64 n, .int .u32 x] w fun r w' => r = .returned (.bool true) ∧ Below w.heap.size w w' := by
  have HE := Hid.in hE
  have HM := Hid.in hm
  clear hE hm
  go_enter Tryd.func6, Tryd.ntmps6
  go_wp2_with fail
  refine (within_i n 1 128 _ (by decide) (by decide) (by decide)).mono ?_
  rw [HM.out]
  rintro r w' ⟨rfl, rfl⟩
  go_wp2_with fail
  refine (right_any k a v o m _).mono ?_
  rcases h with h | ⟨h, rfl⟩
  all_goals
    rw [h]
    clear h
    rintro r w1 ⟨rfl, hb1⟩
    have HB1 := Hid.in (bstep (below_alloc w _) (Nat.le_refl _) hb1)
    clear hb1
    go_wp2_with fail
    refine (progRuns_any w1 sa (HE.out.below HB1.out)).mono ?_
    rintro r w7 ⟨rfl, hb7⟩
    have HB7 := Hid.in (bstep HB1.out (Nat.le_refl _) hb7)
    clear hb7
    go_wp2
    go_ret
    exact ⟨rfl, HB7.out⟩

theorem progNames_any (w : World) (sa : Nat → Addr) (hE : Env10 w sa) (k a v o n x : Int) (x0 : 0 ≤ x) (x1 : x < 4294967296) : Calls Tryd.prog 6 #[.agg #[.int .i64 k, .int .i64 a, .int .u32 v, .int .u32 o], .int .i64 n, .int .u32 x] w fun r w' => r = .returned (.bool true) ∧ Below w.heap.size w w' := by
  have hm12 := wI_le n 1 128 (by decide)
  by_cases hr : rt (k, a, v, o) (wI n 1 128) = true
  · by_cases hx : x = 0
    · exact progNames_no w sa hE k a v o n x _ rfl (.inr ⟨hr, hx⟩)
    · exact progNames_yes w sa hE k a v o n x _ rfl hm12.1 hm12.2 hr (by simp [hx]) (by omega) x1
  · exact progNames_no w sa hE k a v o n x _ rfl (.inl (by simpa using hr))

end Go.Proofs.YtbanihjjeicdaaaDoor

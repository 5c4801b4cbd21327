/- DERIVED of the program: a message and four copies of it in memory. Own work. -/
import Derived.Test.YtakomlmbdienpaaDoorSgTwo
import Derived.Test.YtakomlmbdienpaaDoorGenP
namespace Go.Proofs.YtakomlmbdienpaaDoor
open Go.RowKit Go.Extern.Stop Go.Stop Go.Extern

/-- What came in lies in the first block of the call. -/
structure SMA (w : World) (mc : Array Value) (W : World) : Prop where
  bA : W.heap[w.heap.size]? = some (.cells mc 32 (0, 0))
  be : Below w.heap.size w W
theorem SMA.step {w W W' : World} {mc : Array Value} (h : SMA w mc W) (hb : Below W.heap.size W W') : SMA w mc W' := ⟨blk_step h.bA hb, bstep h.be (Nat.le_refl _) hb⟩

/-- And four more. -/
structure SM5 (w : World) (mc c1 c2 c3 c4 : Array Value) (x1 x2 x3 x4 : Nat) (W : World) : Prop where
  s : SMA w mc W
  b1 : W.heap[x1]? = some (.cells c1 32 (0, 0))
  b2 : W.heap[x2]? = some (.cells c2 32 (0, 0))
  b3 : W.heap[x3]? = some (.cells c3 32 (0, 0))
  b4 : W.heap[x4]? = some (.cells c4 32 (0, 0))
  od : (w.heap.size < x1 ∧ w.heap.size < x2 ∧ w.heap.size < x3 ∧ w.heap.size < x4) ∧ x1 ≠ x2 ∧ x1 ≠ x3 ∧ x1 ≠ x4 ∧ x2 ≠ x3 ∧ x2 ≠ x4 ∧ x3 ≠ x4
theorem SM5.step {w W W' : World} {mc c1 c2 c3 c4 : Array Value} {x1 x2 x3 x4 : Nat} (h : SM5 w mc c1 c2 c3 c4 x1 x2 x3 x4 W) (hb : Below W.heap.size W W') : SM5 w mc c1 c2 c3 c4 x1 x2 x3 x4 W' :=
  ⟨h.s.step hb, blk_step h.b1 hb, blk_step h.b2 hb, blk_step h.b3 hb, blk_step h.b4 hb, h.od⟩

/-- A block of the four is written over. -/
theorem SM5.over1 {w W W' : World} {mc c1 c2 c3 c4 d : Array Value} {x1 x2 x3 x4 : Nat} (h : SM5 w mc c1 c2 c3 c4 x1 x2 x3 x4 W) (hx : W'.heap[x1]? = some (.cells d 32 (0, 0))) (ho : ∀ k, k ≠ x1 → W'.heap[k]? = W.heap[k]?) (hb : ∀ B w, B ≤ x1 → Below B w W → Below B w W') : SM5 w mc d c2 c3 c4 x1 x2 x3 x4 W' := by
  obtain ⟨⟨p1, p2, p3, p4⟩, a12, a13, a14, a23, a24, a34⟩ := h.od
  exact ⟨⟨(ho _ (by omega)).trans h.s.bA, hb _ _ (by omega) h.s.be⟩, hx, (ho _ (by omega)).trans h.b2, (ho _ (by omega)).trans h.b3, (ho _ (by omega)).trans h.b4, h.od⟩
theorem SM5.set1 {w W : World} {mc c1 c2 c3 c4 : Array Value} {x1 x2 x3 x4 : Nat} (h : SM5 w mc c1 c2 c3 c4 x1 x2 x3 x4 W) (i : Nat) (v : Value) : SM5 w mc (c1.setIfInBounds i v) c2 c3 c4 x1 x2 x3 x4 (W.setCell ⟨x1, i, none⟩ v) :=
  h.over1 (blk_set v h.b1) (fun k hk => Below.heap_setCell _ _ _ k hk) (fun _ _ hB hb => hb.setCell (p := ⟨x1, i, none⟩) hB v)

/-- A block of the four is written over. -/
theorem SM5.over2 {w W W' : World} {mc c1 c2 c3 c4 d : Array Value} {x1 x2 x3 x4 : Nat} (h : SM5 w mc c1 c2 c3 c4 x1 x2 x3 x4 W) (hx : W'.heap[x2]? = some (.cells d 32 (0, 0))) (ho : ∀ k, k ≠ x2 → W'.heap[k]? = W.heap[k]?) (hb : ∀ B w, B ≤ x2 → Below B w W → Below B w W') : SM5 w mc c1 d c3 c4 x1 x2 x3 x4 W' := by
  obtain ⟨⟨p1, p2, p3, p4⟩, a12, a13, a14, a23, a24, a34⟩ := h.od
  exact ⟨⟨(ho _ (by omega)).trans h.s.bA, hb _ _ (by omega) h.s.be⟩, (ho _ (by omega)).trans h.b1, hx, (ho _ (by omega)).trans h.b3, (ho _ (by omega)).trans h.b4, h.od⟩
theorem SM5.set2 {w W : World} {mc c1 c2 c3 c4 : Array Value} {x1 x2 x3 x4 : Nat} (h : SM5 w mc c1 c2 c3 c4 x1 x2 x3 x4 W) (i : Nat) (v : Value) : SM5 w mc c1 (c2.setIfInBounds i v) c3 c4 x1 x2 x3 x4 (W.setCell ⟨x2, i, none⟩ v) :=
  h.over2 (blk_set v h.b2) (fun k hk => Below.heap_setCell _ _ _ k hk) (fun _ _ hB hb => hb.setCell (p := ⟨x2, i, none⟩) hB v)

/-- A block of the four is written over. -/
theorem SM5.over3 {w W W' : World} {mc c1 c2 c3 c4 d : Array Value} {x1 x2 x3 x4 : Nat} (h : SM5 w mc c1 c2 c3 c4 x1 x2 x3 x4 W) (hx : W'.heap[x3]? = some (.cells d 32 (0, 0))) (ho : ∀ k, k ≠ x3 → W'.heap[k]? = W.heap[k]?) (hb : ∀ B w, B ≤ x3 → Below B w W → Below B w W') : SM5 w mc c1 c2 d c4 x1 x2 x3 x4 W' := by
  obtain ⟨⟨p1, p2, p3, p4⟩, a12, a13, a14, a23, a24, a34⟩ := h.od
  exact ⟨⟨(ho _ (by omega)).trans h.s.bA, hb _ _ (by omega) h.s.be⟩, (ho _ (by omega)).trans h.b1, (ho _ (by omega)).trans h.b2, hx, (ho _ (by omega)).trans h.b4, h.od⟩
theorem SM5.set3 {w W : World} {mc c1 c2 c3 c4 : Array Value} {x1 x2 x3 x4 : Nat} (h : SM5 w mc c1 c2 c3 c4 x1 x2 x3 x4 W) (i : Nat) (v : Value) : SM5 w mc c1 c2 (c3.setIfInBounds i v) c4 x1 x2 x3 x4 (W.setCell ⟨x3, i, none⟩ v) :=
  h.over3 (blk_set v h.b3) (fun k hk => Below.heap_setCell _ _ _ k hk) (fun _ _ hB hb => hb.setCell (p := ⟨x3, i, none⟩) hB v)

/-- A block of the four is written over. -/
theorem SM5.over4 {w W W' : World} {mc c1 c2 c3 c4 d : Array Value} {x1 x2 x3 x4 : Nat} (h : SM5 w mc c1 c2 c3 c4 x1 x2 x3 x4 W) (hx : W'.heap[x4]? = some (.cells d 32 (0, 0))) (ho : ∀ k, k ≠ x4 → W'.heap[k]? = W.heap[k]?) (hb : ∀ B w, B ≤ x4 → Below B w W → Below B w W') : SM5 w mc c1 c2 c3 d x1 x2 x3 x4 W' := by
  obtain ⟨⟨p1, p2, p3, p4⟩, a12, a13, a14, a23, a24, a34⟩ := h.od
  exact ⟨⟨(ho _ (by omega)).trans h.s.bA, hb _ _ (by omega) h.s.be⟩, (ho _ (by omega)).trans h.b1, (ho _ (by omega)).trans h.b2, (ho _ (by omega)).trans h.b3, hx, h.od⟩
theorem SM5.set4 {w W : World} {mc c1 c2 c3 c4 : Array Value} {x1 x2 x3 x4 : Nat} (h : SM5 w mc c1 c2 c3 c4 x1 x2 x3 x4 W) (i : Nat) (v : Value) : SM5 w mc c1 c2 c3 (c4.setIfInBounds i v) x1 x2 x3 x4 (W.setCell ⟨x4, i, none⟩ v) :=
  h.over4 (blk_set v h.b4) (fun k hk => Below.heap_setCell _ _ _ k hk) (fun _ _ hB hb => hb.setCell (p := ⟨x4, i, none⟩) hB v)

/-- Thirteen cells stored over thirteen. -/
theorem set13 {W : World} {x : Nat} {t : TypeId} {y0 y1 y2 y3 y4 y5 y6 y7 y8 y9 y10 y11 y12 v0 v1 v2 v3 v4 v5 v6 v7 v8 v9 v10 v11 v12 : Value} (h : W.heap[x]? = some (.cells #[y0, y1, y2, y3, y4, y5, y6, y7, y8, y9, y10, y11, y12] t (0, 0))) :
    (((((((((((((W.setCell ⟨x, 0, none⟩ v0).setCell ⟨x, 1, none⟩ v1).setCell ⟨x, 2, none⟩ v2).setCell ⟨x, 3, none⟩ v3).setCell ⟨x, 4, none⟩ v4).setCell ⟨x, 5, none⟩ v5).setCell ⟨x, 6, none⟩ v6).setCell ⟨x, 7, none⟩ v7).setCell ⟨x, 8, none⟩ v8).setCell ⟨x, 9, none⟩ v9).setCell ⟨x, 10, none⟩ v10).setCell ⟨x, 11, none⟩ v11).setCell ⟨x, 12, none⟩ v12).heap[x]? = some (.cells #[v0, v1, v2, v3, v4, v5, v6, v7, v8, v9, v10, v11, v12] t (0, 0)) ∧ (∀ k, k ≠ x → (((((((((((((W.setCell ⟨x, 0, none⟩ v0).setCell ⟨x, 1, none⟩ v1).setCell ⟨x, 2, none⟩ v2).setCell ⟨x, 3, none⟩ v3).setCell ⟨x, 4, none⟩ v4).setCell ⟨x, 5, none⟩ v5).setCell ⟨x, 6, none⟩ v6).setCell ⟨x, 7, none⟩ v7).setCell ⟨x, 8, none⟩ v8).setCell ⟨x, 9, none⟩ v9).setCell ⟨x, 10, none⟩ v10).setCell ⟨x, 11, none⟩ v11).setCell ⟨x, 12, none⟩ v12).heap[k]? = W.heap[k]?) ∧ (∀ B w, B ≤ x → Below B w W → Below B w (((((((((((((W.setCell ⟨x, 0, none⟩ v0).setCell ⟨x, 1, none⟩ v1).setCell ⟨x, 2, none⟩ v2).setCell ⟨x, 3, none⟩ v3).setCell ⟨x, 4, none⟩ v4).setCell ⟨x, 5, none⟩ v5).setCell ⟨x, 6, none⟩ v6).setCell ⟨x, 7, none⟩ v7).setCell ⟨x, 8, none⟩ v8).setCell ⟨x, 9, none⟩ v9).setCell ⟨x, 10, none⟩ v10).setCell ⟨x, 11, none⟩ v11).setCell ⟨x, 12, none⟩ v12)) := by
  have h0 : (W.setCell ⟨x, 0, none⟩ v0).heap[x]? = some (.cells #[v0, y1, y2, y3, y4, y5, y6, y7, y8, y9, y10, y11, y12] t (0, 0)) := blk_set v0 h
  have h1 : ((W.setCell ⟨x, 0, none⟩ v0).setCell ⟨x, 1, none⟩ v1).heap[x]? = some (.cells #[v0, v1, y2, y3, y4, y5, y6, y7, y8, y9, y10, y11, y12] t (0, 0)) := blk_set v1 h0
  have h2 : (((W.setCell ⟨x, 0, none⟩ v0).setCell ⟨x, 1, none⟩ v1).setCell ⟨x, 2, none⟩ v2).heap[x]? = some (.cells #[v0, v1, v2, y3, y4, y5, y6, y7, y8, y9, y10, y11, y12] t (0, 0)) := blk_set v2 h1
  have h3 : ((((W.setCell ⟨x, 0, none⟩ v0).setCell ⟨x, 1, none⟩ v1).setCell ⟨x, 2, none⟩ v2).setCell ⟨x, 3, none⟩ v3).heap[x]? = some (.cells #[v0, v1, v2, v3, y4, y5, y6, y7, y8, y9, y10, y11, y12] t (0, 0)) := blk_set v3 h2
  have h4 : (((((W.setCell ⟨x, 0, none⟩ v0).setCell ⟨x, 1, none⟩ v1).setCell ⟨x, 2, none⟩ v2).setCell ⟨x, 3, none⟩ v3).setCell ⟨x, 4, none⟩ v4).heap[x]? = some (.cells #[v0, v1, v2, v3, v4, y5, y6, y7, y8, y9, y10, y11, y12] t (0, 0)) := blk_set v4 h3
  have h5 : ((((((W.setCell ⟨x, 0, none⟩ v0).setCell ⟨x, 1, none⟩ v1).setCell ⟨x, 2, none⟩ v2).setCell ⟨x, 3, none⟩ v3).setCell ⟨x, 4, none⟩ v4).setCell ⟨x, 5, none⟩ v5).heap[x]? = some (.cells #[v0, v1, v2, v3, v4, v5, y6, y7, y8, y9, y10, y11, y12] t (0, 0)) := blk_set v5 h4
  have h6 : (((((((W.setCell ⟨x, 0, none⟩ v0).setCell ⟨x, 1, none⟩ v1).setCell ⟨x, 2, none⟩ v2).setCell ⟨x, 3, none⟩ v3).setCell ⟨x, 4, none⟩ v4).setCell ⟨x, 5, none⟩ v5).setCell ⟨x, 6, none⟩ v6).heap[x]? = some (.cells #[v0, v1, v2, v3, v4, v5, v6, y7, y8, y9, y10, y11, y12] t (0, 0)) := blk_set v6 h5
  have h7 : ((((((((W.setCell ⟨x, 0, none⟩ v0).setCell ⟨x, 1, none⟩ v1).setCell ⟨x, 2, none⟩ v2).setCell ⟨x, 3, none⟩ v3).setCell ⟨x, 4, none⟩ v4).setCell ⟨x, 5, none⟩ v5).setCell ⟨x, 6, none⟩ v6).setCell ⟨x, 7, none⟩ v7).heap[x]? = some (.cells #[v0, v1, v2, v3, v4, v5, v6, v7, y8, y9, y10, y11, y12] t (0, 0)) := blk_set v7 h6
  have h8 : (((((((((W.setCell ⟨x, 0, none⟩ v0).setCell ⟨x, 1, none⟩ v1).setCell ⟨x, 2, none⟩ v2).setCell ⟨x, 3, none⟩ v3).setCell ⟨x, 4, none⟩ v4).setCell ⟨x, 5, none⟩ v5).setCell ⟨x, 6, none⟩ v6).setCell ⟨x, 7, none⟩ v7).setCell ⟨x, 8, none⟩ v8).heap[x]? = some (.cells #[v0, v1, v2, v3, v4, v5, v6, v7, v8, y9, y10, y11, y12] t (0, 0)) := blk_set v8 h7
  have h9 : ((((((((((W.setCell ⟨x, 0, none⟩ v0).setCell ⟨x, 1, none⟩ v1).setCell ⟨x, 2, none⟩ v2).setCell ⟨x, 3, none⟩ v3).setCell ⟨x, 4, none⟩ v4).setCell ⟨x, 5, none⟩ v5).setCell ⟨x, 6, none⟩ v6).setCell ⟨x, 7, none⟩ v7).setCell ⟨x, 8, none⟩ v8).setCell ⟨x, 9, none⟩ v9).heap[x]? = some (.cells #[v0, v1, v2, v3, v4, v5, v6, v7, v8, v9, y10, y11, y12] t (0, 0)) := blk_set v9 h8
  have h10 : (((((((((((W.setCell ⟨x, 0, none⟩ v0).setCell ⟨x, 1, none⟩ v1).setCell ⟨x, 2, none⟩ v2).setCell ⟨x, 3, none⟩ v3).setCell ⟨x, 4, none⟩ v4).setCell ⟨x, 5, none⟩ v5).setCell ⟨x, 6, none⟩ v6).setCell ⟨x, 7, none⟩ v7).setCell ⟨x, 8, none⟩ v8).setCell ⟨x, 9, none⟩ v9).setCell ⟨x, 10, none⟩ v10).heap[x]? = some (.cells #[v0, v1, v2, v3, v4, v5, v6, v7, v8, v9, v10, y11, y12] t (0, 0)) := blk_set v10 h9
  have h11 : ((((((((((((W.setCell ⟨x, 0, none⟩ v0).setCell ⟨x, 1, none⟩ v1).setCell ⟨x, 2, none⟩ v2).setCell ⟨x, 3, none⟩ v3).setCell ⟨x, 4, none⟩ v4).setCell ⟨x, 5, none⟩ v5).setCell ⟨x, 6, none⟩ v6).setCell ⟨x, 7, none⟩ v7).setCell ⟨x, 8, none⟩ v8).setCell ⟨x, 9, none⟩ v9).setCell ⟨x, 10, none⟩ v10).setCell ⟨x, 11, none⟩ v11).heap[x]? = some (.cells #[v0, v1, v2, v3, v4, v5, v6, v7, v8, v9, v10, v11, y12] t (0, 0)) := blk_set v11 h10
  have h12 : (((((((((((((W.setCell ⟨x, 0, none⟩ v0).setCell ⟨x, 1, none⟩ v1).setCell ⟨x, 2, none⟩ v2).setCell ⟨x, 3, none⟩ v3).setCell ⟨x, 4, none⟩ v4).setCell ⟨x, 5, none⟩ v5).setCell ⟨x, 6, none⟩ v6).setCell ⟨x, 7, none⟩ v7).setCell ⟨x, 8, none⟩ v8).setCell ⟨x, 9, none⟩ v9).setCell ⟨x, 10, none⟩ v10).setCell ⟨x, 11, none⟩ v11).setCell ⟨x, 12, none⟩ v12).heap[x]? = some (.cells #[v0, v1, v2, v3, v4, v5, v6, v7, v8, v9, v10, v11, v12] t (0, 0)) := blk_set v12 h11
  refine ⟨h12, fun k hk => ?_, fun _ _ hB hb => ?_⟩
  · refine (Below.heap_setCell _ _ _ k hk).trans ?_; refine (Below.heap_setCell _ _ _ k hk).trans ?_; refine (Below.heap_setCell _ _ _ k hk).trans ?_; refine (Below.heap_setCell _ _ _ k hk).trans ?_; refine (Below.heap_setCell _ _ _ k hk).trans ?_; refine (Below.heap_setCell _ _ _ k hk).trans ?_; refine (Below.heap_setCell _ _ _ k hk).trans ?_; refine (Below.heap_setCell _ _ _ k hk).trans ?_; refine (Below.heap_setCell _ _ _ k hk).trans ?_; refine (Below.heap_setCell _ _ _ k hk).trans ?_; refine (Below.heap_setCell _ _ _ k hk).trans ?_; refine (Below.heap_setCell _ _ _ k hk).trans ?_; refine (Below.heap_setCell _ _ _ k hk).trans ?_; rfl
  · exact (((((((((((((hb.setCell (p := ⟨x, 0, none⟩) hB v0).setCell (p := ⟨x, 1, none⟩) hB v1).setCell (p := ⟨x, 2, none⟩) hB v2).setCell (p := ⟨x, 3, none⟩) hB v3).setCell (p := ⟨x, 4, none⟩) hB v4).setCell (p := ⟨x, 5, none⟩) hB v5).setCell (p := ⟨x, 6, none⟩) hB v6).setCell (p := ⟨x, 7, none⟩) hB v7).setCell (p := ⟨x, 8, none⟩) hB v8).setCell (p := ⟨x, 9, none⟩) hB v9).setCell (p := ⟨x, 10, none⟩) hB v10).setCell (p := ⟨x, 11, none⟩) hB v11).setCell (p := ⟨x, 12, none⟩) hB v12)

end Go.Proofs.YtakomlmbdienpaaDoor

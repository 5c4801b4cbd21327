/- DERIVED of the program: the document's own Get by its contract. Own work. -/
import Derived.Test.YtgepfbaojogccaaDoorSgQS
import Derived.Test.YtgepfbaojogccaaDoorSgK
namespace Go.Proofs.YtgepfbaojogccaaDoor
open Go.RowKit Go.Extern.Stop Go.Stop Go.Extern

theorem results_cell3 {fn : Func} {p u v : Tmp} {ty : TypeId} (h : fn.results = #[.cell p ty, .tmp u, .tmp v]) (tmps : Array Value) (P : Program) (w : World) :
    (results fn tmps).run P w = ((asAddr (tmps.getD p undef)).run P w).andThen fun a w₁ => ((loadVar ty a).run P w₁).andThen fun x w₂ => .ok (.tuple #[x, tmps.getD u undef, tmps.getD v undef]) w₂ := by
  simp only [results, h]
  simp [Sem.run_bind, Result.andThen]

/-- In the midst of the document's Get: the reader in block q, the result in the first, the message in block M. -/
structure GQ (w : World) (q M : Nat) (ao : Option Addr) (cap : Nat) (bs : List Nat) (s : Nat × Nat) (mc : Array Value) (W : World) : Prop where
  qd : Qd W q ao cap bs s.2 s.1
  bR : W.heap[w.heap.size]? = some (.cells #[.int .i64 0, .int .i64 0, .int .i64 0, .int .i64 0, .int .i64 0, .int .i64 0, .int .i64 0, .int .u32 0, .int .u32 0, .int .u32 0, .int .u32 0, .int .u32 0, .bool false] 28 (0, 0))
  bM : W.heap[M]? = some (.cells mc 28 (0, 0))
  be : Below w.heap.size w W
  od : w.heap.size < q ∧ q < M
  aw : bs = [] ∨ ∀ x, w.heap.size ≤ x → oblk ao ≠ some x

theorem GQ.in {w W W' : World} {q M : Nat} {ao : Option Addr} {cap : Nat} {bs : List Nat} {s s' : Nat × Nat} {mc : Array Value} (h : GQ w q M ao cap bs s mc W) (hq : Qd W' q ao cap bs s'.2 s'.1) (hg : W.grownBy W' (some q)) : GQ w q M ao cap bs s' mc W' :=
  ⟨hq, (hg.block _ (blk_lt h.bR) (by intro e; have := Option.some.inj e; have := h.od; omega)).trans h.bR, (hg.block _ (blk_lt h.bM) (by intro e; have := Option.some.inj e; have := h.od; omega)).trans h.bM, wrote h.be hg (Nat.le_refl _) (by have := h.od; omega), h.od, h.aw⟩
theorem GQ.step {w W W' : World} {q M : Nat} {ao : Option Addr} {cap : Nat} {bs : List Nat} {s : Nat × Nat} {mc : Array Value} (h : GQ w q M ao cap bs s mc W) (hb : Below W.heap.size W W') : GQ w q M ao cap bs s mc W' :=
  ⟨h.qd.step hb, blk_step h.bR hb, blk_step h.bM hb, bstep h.be (Nat.le_refl _) hb, h.od, h.aw⟩
theorem GQ.set {w W : World} {q M : Nat} {ao : Option Addr} {cap : Nat} {bs : List Nat} {s : Nat × Nat} {mc : Array Value} (h : GQ w q M ao cap bs s mc W) (i : Nat) (v : Value) : GQ w q M ao cap bs s (mc.setIfInBounds i v) (W.setCell ⟨M, i, none⟩ v) :=
  ⟨h.qd.kept (grown_set W M i v) (by intro e; have := Option.some.inj e; have := h.od; omega) (h.aw.imp id (fun f => .inr (f M (by have := h.od; omega)))), (Below.heap_setCell _ _ _ _ (by show w.heap.size ≠ M; have := h.od; omega)).trans h.bR, blk_set v h.bM, h.be.setCell (p := ⟨M, i, none⟩) (by show w.heap.size ≤ M; have := h.od; omega) v, h.od, h.aw⟩
theorem qin_g (w : World) (q : Nat) (ao : Option Addr) (cap : Nat) (bs : List Nat) (s s' : Nat × Nat) (lo hi z x : Int) (hQ : Qd w q ao cap bs s.2 s.1) (e : gst bs s x lo hi = (s', z)) :
    Calls Tryd.prog 35 #[.pointer (some ⟨q, 0, none⟩), .int .i64 lo, .int .i64 hi] w fun r w' => r = .returned (.int .i64 z) ∧ Qd w' q ao cap bs s'.2 s'.1 ∧ w.grownBy w' (some q) := by
  have h := qin_any w q ao cap bs s.2 s.1 hQ lo hi
  have g := gst_get e
  rw [g] at h
  exact h

set_option maxHeartbeats 12800000 in
set_option maxRecDepth 20000 in
theorem qsGet_any (ao : Option Addr) (N cap : Nat) (bs : List Nat) (w : World) (hN : N = bs.length) (hL : Lie w ao cap bs) (hby : ∀ x ∈ bs, x < 256) (hlen : bs.length ≤ 140737488355328) :
    Calls Tryd.prog 17 #[.slice ao N cap] w fun r w' => ∃ pl : Int, r = .returned (.tuple #[.agg (mv (gotM bs).2), .int .i64 ((gotM bs).1 : Nat), .int .i64 pl]) ∧ Below w.heap.size w w' := by
  subst hN
  have HAW : Hid (bs = [] ∨ ∀ x, w.heap.size ≤ x → oblk ao ≠ some x) := Hid.in (by
    rcases Nat.eq_zero_or_pos bs.length with h0 | h0
    · exact .inl (List.length_eq_zero_iff.1 h0)
    · obtain ⟨b, o, rfl, hb⟩ := hL.lt h0
      exact .inr (fun x hx e => by have e1 : b = x := Option.some.inj e; omega))
  have HR0 : Hid (((w.alloc (.cells #[.int .i64 0, .int .i64 0, .int .i64 0, .int .i64 0, .int .i64 0, .int .i64 0, .int .i64 0, .int .u32 0, .int .u32 0, .int .u32 0, .int .u32 0, .int .u32 0, .bool false] 28)).alloc (.cells #[.slice ao bs.length cap, .int .i64 0, .int .i64 0, .int .i64 0] 65)).heap[w.heap.size]? = some (.cells #[.int .i64 0, .int .i64 0, .int .i64 0, .int .i64 0, .int .i64 0, .int .i64 0, .int .i64 0, .int .u32 0, .int .u32 0, .int .u32 0, .int .u32 0, .int .u32 0, .bool false] 28 (0, 0))) := Hid.in (blk_step (heap_alloc_new _ _) (below_alloc _ _))
  have HB0 : Hid (Below w.heap.size w ((w.alloc (.cells #[.int .i64 0, .int .i64 0, .int .i64 0, .int .i64 0, .int .i64 0, .int .i64 0, .int .i64 0, .int .u32 0, .int .u32 0, .int .u32 0, .int .u32 0, .int .u32 0, .bool false] 28)).alloc (.cells #[.slice ao bs.length cap, .int .i64 0, .int .i64 0, .int .i64 0] 65))) := Hid.in (bstep (below_alloc _ _) (Nat.le_refl _) (below_alloc _ _))
  have HQ0 : Hid (Qd ((w.alloc (.cells #[.int .i64 0, .int .i64 0, .int .i64 0, .int .i64 0, .int .i64 0, .int .i64 0, .int .i64 0, .int .u32 0, .int .u32 0, .int .u32 0, .int .u32 0, .int .u32 0, .bool false] 28)).alloc (.cells #[.slice ao bs.length cap, .int .i64 0, .int .i64 0, .int .i64 0] 65)) (w.heap.size + 1) ao cap bs 0 0) := Hid.in (by
    have hn := heap_alloc_new (w.alloc (.cells #[.int .i64 0, .int .i64 0, .int .i64 0, .int .i64 0, .int .i64 0, .int .i64 0, .int .i64 0, .int .u32 0, .int .u32 0, .int .u32 0, .int .u32 0, .int .u32 0, .bool false] 28)) (.cells #[.slice ao bs.length cap, .int .i64 0, .int .i64 0, .int .i64 0] 65)
    rw [show (w.alloc (.cells #[.int .i64 0, .int .i64 0, .int .i64 0, .int .i64 0, .int .i64 0, .int .i64 0, .int .i64 0, .int .u32 0, .int .u32 0, .int .u32 0, .int .u32 0, .int .u32 0, .bool false] 28)).heap.size = w.heap.size + 1 by simp] at hn
    exact ⟨hn, hL.step HB0.out, HAW.out.imp id (fun f => f _ (by omega)), Nat.zero_le _, hby, hlen⟩)
  rcases e1 : gst bs (0, 0) 0 1 15 with ⟨s1, k'⟩
  rcases e2 : gst bs s1 0 0 63 with ⟨s2, c'⟩
  rcases e3 : gst bs s2 0 0 31 with ⟨s3, l'⟩
  have E1 := Hid.in e1
  have E2 := Hid.in e2
  have E3 := Hid.in e3
  clear e1 e2 e3 hL
  go_enter Tryd.func17, Tryd.ntmps17
  go_wp2_with fail
  refine (qin_g _ _ ao cap bs (0, 0) s1 1 15 k' 0 HQ0.out E1.out).mono ?_
  rintro r w1 ⟨rfl, hq, hg⟩
  have HQ1 := Hid.in hq
  have HR1 := Hid.in ((hg.block _ (blk_lt HR0.out) (by intro e; have := Option.some.inj e; omega)).trans HR0.out)
  have HB1 := Hid.in (wrote HB0.out hg (Nat.le_refl _) (by omega))
  clear hq hg HR0 HB0 HQ0
  go_wp2_with fail
  refine (qin_g _ _ ao cap bs s1 s2 0 63 c' 0 HQ1.out E2.out).mono ?_
  rintro r w2 ⟨rfl, hq, hg⟩
  have HQ2 := Hid.in hq
  have HR2 := Hid.in ((hg.block _ (blk_lt HR1.out) (by intro e; have := Option.some.inj e; omega)).trans HR1.out)
  have HB2 := Hid.in (wrote HB1.out hg (Nat.le_refl _) (by omega))
  clear hq hg HR1 HB1 HQ1
  go_wp2_with fail
  refine (qin_g _ _ ao cap bs s2 s3 0 31 l' 0 HQ2.out E3.out).mono ?_
  rintro r w3 ⟨rfl, hq, hg⟩
  have HQ3 := Hid.in hq
  have HR3 := Hid.in ((hg.block _ (blk_lt HR2.out) (by intro e; have := Option.some.inj e; omega)).trans HR2.out)
  have HB3 := Hid.in (wrote HB2.out hg (Nat.le_refl _) (by omega))
  clear hq hg HR2 HB2 HQ2
  have HS0 : Hid (GQ w (w.heap.size + 1) w3.heap.size ao cap bs s3 #[.int .i64 k', .int .i64 c', .int .i64 l', .int .i64 0, .int .i64 0, .int .i64 0, .int .i64 0, .int .u32 0, .int .u32 0, .int .u32 0, .int .u32 0, .int .u32 0, .bool false] (w3.alloc (.cells #[.int .i64 k', .int .i64 c', .int .i64 l', .int .i64 0, .int .i64 0, .int .i64 0, .int .i64 0, .int .u32 0, .int .u32 0, .int .u32 0, .int .u32 0, .int .u32 0, .bool false] 28))) := Hid.in ⟨HQ3.out.step (below_alloc _ _), blk_step HR3.out (below_alloc _ _), heap_alloc_new _ _, bstep HB3.out (Nat.le_refl _) (below_alloc _ _), ⟨by omega, HQ3.out.lt⟩, HAW.out⟩
  clear HQ3 HR3 HB3 HAW
  go_upto_region 3 with fail
  obtain ⟨M, hM⟩ : ∃ M, w3.heap.size = M := ⟨_, rfl⟩
  generalize hX : w3.alloc (.cells #[.int .i64 k', .int .i64 c', .int .i64 l', .int .i64 0, .int .i64 0, .int .i64 0, .int .i64 0, .int .u32 0, .int .u32 0, .int .u32 0, .int .u32 0, .int .u32 0, .bool false] 28) = W0 at *
  clear hX hM M
  obtain ⟨M, hM⟩ : ∃ M, w3.heap.size = M := ⟨_, rfl⟩
  rw [hM] at HS0 ⊢
  clear hM
  have p0 : W0.cell? ⟨M, 0, none⟩ = some (.int .i64 k') := blk_cell HS0.out.bM rfl
  go_upto_block 0 with fail
  clear p0
  go_cut [] (fun we => ∃ (s : Nat × Nat) (m : M13), getM bs = (s, m) ∧ GQ w (w.heap.size + 1) M ao cap bs s (mv m) we)
  case first =>
    have hk : k' = 3 ∨ k' = 8 ∨ k' = 14 ∨ k' = 5 ∨ k' = 9 ∨ k' = 13 ∨ k' = 11 ∨ (¬ k' = 3 ∧ ¬ k' = 8 ∧ ¬ k' = 14 ∧ ¬ k' = 5 ∧ ¬ k' = 9 ∧ ¬ k' = 13 ∧ ¬ k' = 11) := by omega
    rcases hk with rfl | rfl | rfl | rfl | rfl | rfl | rfl | ⟨g3, g8, g14, g5, g9, g13, g11⟩
    · skip
      rcases e4 : gst bs s3 0 0 3 with ⟨s4, w_'⟩
      have E4 := Hid.in e4
      clear e4
      rcases e5 : gst bs s4 0 0 4294967295 with ⟨s5, v'⟩
      have E5 := Hid.in e5
      have B5 := gst_num e5
      have B5a : 0 ≤ v' ∧ v' ≤ 4294967295 := by omega
      obtain ⟨B5b, B5c⟩ := B5a
      clear B5
      clear e5
      have B5d : v' < 4294967296 := by omega
      go_wp2_with fail
      refine (qin_g _ _ ao cap bs s3 s4 0 3 _ 0 HS0.out.qd E4.out).mono ?_
      rintro r v4 ⟨rfl, hq, hg⟩
      have HSn : Hid (GQ w (w.heap.size + 1) M ao cap bs s4 #[.int .i64 3, .int .i64 c', .int .i64 l', .int .i64 0, .int .i64 0, .int .i64 0, .int .i64 0, .int .u32 0, .int .u32 0, .int .u32 0, .int .u32 0, .int .u32 0, .bool false] v4) := Hid.in (HS0.out.in hq hg)
      clear hq hg HS0
      have HS0 := HSn
      clear HSn
      go_wp2_with fail
      refine (qin_g _ _ ao cap bs s4 s5 0 4294967295 _ 0 HS0.out.qd E5.out).mono ?_
      rintro r v5 ⟨rfl, hq, hg⟩
      have HSn : Hid (GQ w (w.heap.size + 1) M ao cap bs s5 #[.int .i64 3, .int .i64 c', .int .i64 l', .int .i64 0, .int .i64 0, .int .i64 0, .int .i64 0, .int .u32 0, .int .u32 0, .int .u32 0, .int .u32 0, .int .u32 0, .bool false] v5) := Hid.in (HS0.out.in hq hg)
      clear hq hg HS0
      have HS0 := HSn
      clear HSn
      have z6 : v5.cell? ⟨M, 6, none⟩ = some (.int .i64 0) := blk_cell HS0.out.bM rfl
      have y6 : v5.frozen? ⟨M, 6, none⟩ = false := blk_free HS0.out.bM
      have z7 : v5.cell? ⟨M, 7, none⟩ = some (.int .u32 0) := blk_cell HS0.out.bM rfl
      have y7 : v5.frozen? ⟨M, 7, none⟩ = false := blk_free HS0.out.bM
      have HSn : Hid (GQ w (w.heap.size + 1) M ao cap bs s5 #[.int .i64 3, .int .i64 c', .int .i64 l', .int .i64 0, .int .i64 0, .int .i64 0, .int .i64 w_', .int .u32 v', .int .u32 0, .int .u32 0, .int .u32 0, .int .u32 0, .bool false] ((v5.setCell ⟨M, 6, none⟩ (.int .i64 w_')).setCell ⟨M, 7, none⟩ (.int .u32 v'))) := Hid.in ((HS0.out.set 6 (.int .i64 w_')).set 7 (.int .u32 v'))
      go_wp2
      go_meet
      case rel => exact ⟨_, _, (show walkP (gst bs) (0, 0) zero13 = _ from walkP_U (h := false) E1.out E2.out E3.out E4.out E5.out (by simp)), HSn.out⟩
    · skip
      rcases e4 : gst bs s3 0 0 3 with ⟨s4, w_'⟩
      have E4 := Hid.in e4
      clear e4
      rcases e5 : gst bs s4 0 0 4294967295 with ⟨s5, v'⟩
      have E5 := Hid.in e5
      have B5 := gst_num e5
      have B5a : 0 ≤ v' ∧ v' ≤ 4294967295 := by omega
      obtain ⟨B5b, B5c⟩ := B5a
      clear B5
      clear e5
      have B5d : v' < 4294967296 := by omega
      go_wp2_with fail
      refine (qin_g _ _ ao cap bs s3 s4 0 3 _ 0 HS0.out.qd E4.out).mono ?_
      rintro r v4 ⟨rfl, hq, hg⟩
      have HSn : Hid (GQ w (w.heap.size + 1) M ao cap bs s4 #[.int .i64 8, .int .i64 c', .int .i64 l', .int .i64 0, .int .i64 0, .int .i64 0, .int .i64 0, .int .u32 0, .int .u32 0, .int .u32 0, .int .u32 0, .int .u32 0, .bool false] v4) := Hid.in (HS0.out.in hq hg)
      clear hq hg HS0
      have HS0 := HSn
      clear HSn
      go_wp2_with fail
      refine (qin_g _ _ ao cap bs s4 s5 0 4294967295 _ 0 HS0.out.qd E5.out).mono ?_
      rintro r v5 ⟨rfl, hq, hg⟩
      have HSn : Hid (GQ w (w.heap.size + 1) M ao cap bs s5 #[.int .i64 8, .int .i64 c', .int .i64 l', .int .i64 0, .int .i64 0, .int .i64 0, .int .i64 0, .int .u32 0, .int .u32 0, .int .u32 0, .int .u32 0, .int .u32 0, .bool false] v5) := Hid.in (HS0.out.in hq hg)
      clear hq hg HS0
      have HS0 := HSn
      clear HSn
      have z6 : v5.cell? ⟨M, 6, none⟩ = some (.int .i64 0) := blk_cell HS0.out.bM rfl
      have y6 : v5.frozen? ⟨M, 6, none⟩ = false := blk_free HS0.out.bM
      have z7 : v5.cell? ⟨M, 7, none⟩ = some (.int .u32 0) := blk_cell HS0.out.bM rfl
      have y7 : v5.frozen? ⟨M, 7, none⟩ = false := blk_free HS0.out.bM
      have HSn : Hid (GQ w (w.heap.size + 1) M ao cap bs s5 #[.int .i64 8, .int .i64 c', .int .i64 l', .int .i64 0, .int .i64 0, .int .i64 0, .int .i64 w_', .int .u32 v', .int .u32 0, .int .u32 0, .int .u32 0, .int .u32 0, .bool false] ((v5.setCell ⟨M, 6, none⟩ (.int .i64 w_')).setCell ⟨M, 7, none⟩ (.int .u32 v'))) := Hid.in ((HS0.out.set 6 (.int .i64 w_')).set 7 (.int .u32 v'))
      go_wp2
      go_meet
      case rel => exact ⟨_, _, (show walkP (gst bs) (0, 0) zero13 = _ from walkP_U (h := false) E1.out E2.out E3.out E4.out E5.out (by simp)), HSn.out⟩
    · skip
      rcases e4 : gst bs s3 0 0 3 with ⟨s4, w_'⟩
      have E4 := Hid.in e4
      clear e4
      rcases e5 : gst bs s4 0 0 4294967295 with ⟨s5, v'⟩
      have E5 := Hid.in e5
      have B5 := gst_num e5
      have B5a : 0 ≤ v' ∧ v' ≤ 4294967295 := by omega
      obtain ⟨B5b, B5c⟩ := B5a
      clear B5
      clear e5
      have B5d : v' < 4294967296 := by omega
      go_wp2_with fail
      refine (qin_g _ _ ao cap bs s3 s4 0 3 _ 0 HS0.out.qd E4.out).mono ?_
      rintro r v4 ⟨rfl, hq, hg⟩
      have HSn : Hid (GQ w (w.heap.size + 1) M ao cap bs s4 #[.int .i64 14, .int .i64 c', .int .i64 l', .int .i64 0, .int .i64 0, .int .i64 0, .int .i64 0, .int .u32 0, .int .u32 0, .int .u32 0, .int .u32 0, .int .u32 0, .bool false] v4) := Hid.in (HS0.out.in hq hg)
      clear hq hg HS0
      have HS0 := HSn
      clear HSn
      go_wp2_with fail
      refine (qin_g _ _ ao cap bs s4 s5 0 4294967295 _ 0 HS0.out.qd E5.out).mono ?_
      rintro r v5 ⟨rfl, hq, hg⟩
      have HSn : Hid (GQ w (w.heap.size + 1) M ao cap bs s5 #[.int .i64 14, .int .i64 c', .int .i64 l', .int .i64 0, .int .i64 0, .int .i64 0, .int .i64 0, .int .u32 0, .int .u32 0, .int .u32 0, .int .u32 0, .int .u32 0, .bool false] v5) := Hid.in (HS0.out.in hq hg)
      clear hq hg HS0
      have HS0 := HSn
      clear HSn
      have z6 : v5.cell? ⟨M, 6, none⟩ = some (.int .i64 0) := blk_cell HS0.out.bM rfl
      have y6 : v5.frozen? ⟨M, 6, none⟩ = false := blk_free HS0.out.bM
      have z7 : v5.cell? ⟨M, 7, none⟩ = some (.int .u32 0) := blk_cell HS0.out.bM rfl
      have y7 : v5.frozen? ⟨M, 7, none⟩ = false := blk_free HS0.out.bM
      have HSn : Hid (GQ w (w.heap.size + 1) M ao cap bs s5 #[.int .i64 14, .int .i64 c', .int .i64 l', .int .i64 0, .int .i64 0, .int .i64 0, .int .i64 w_', .int .u32 v', .int .u32 0, .int .u32 0, .int .u32 0, .int .u32 0, .bool false] ((v5.setCell ⟨M, 6, none⟩ (.int .i64 w_')).setCell ⟨M, 7, none⟩ (.int .u32 v'))) := Hid.in ((HS0.out.set 6 (.int .i64 w_')).set 7 (.int .u32 v'))
      go_wp2
      go_meet
      case rel => exact ⟨_, _, (show walkP (gst bs) (0, 0) zero13 = _ from walkP_U (h := false) E1.out E2.out E3.out E4.out E5.out (by simp)), HSn.out⟩
    · skip
      rcases e4 : gst bs s3 0 0 3 with ⟨s4, o'⟩
      have E4 := Hid.in e4
      clear e4
      go_wp2_with fail
      refine (qin_g _ _ ao cap bs s3 s4 0 3 _ 0 HS0.out.qd E4.out).mono ?_
      rintro r v4 ⟨rfl, hq, hg⟩
      have HSn : Hid (GQ w (w.heap.size + 1) M ao cap bs s4 #[.int .i64 5, .int .i64 c', .int .i64 l', .int .i64 0, .int .i64 0, .int .i64 0, .int .i64 0, .int .u32 0, .int .u32 0, .int .u32 0, .int .u32 0, .int .u32 0, .bool false] v4) := Hid.in (HS0.out.in hq hg)
      clear hq hg HS0
      have HS0 := HSn
      clear HSn
      have z4 : v4.cell? ⟨M, 4, none⟩ = some (.int .i64 0) := blk_cell HS0.out.bM rfl
      have y4 : v4.frozen? ⟨M, 4, none⟩ = false := blk_free HS0.out.bM
      have HSn : Hid (GQ w (w.heap.size + 1) M ao cap bs s4 #[.int .i64 5, .int .i64 c', .int .i64 l', .int .i64 0, .int .i64 o', .int .i64 0, .int .i64 0, .int .u32 0, .int .u32 0, .int .u32 0, .int .u32 0, .int .u32 0, .bool false] (v4.setCell ⟨M, 4, none⟩ (.int .i64 o'))) := Hid.in (HS0.out.set 4 (.int .i64 o'))
      go_wp2
      go_meet
      case rel => exact ⟨_, _, (show walkP (gst bs) (0, 0) zero13 = _ from walkP_S (h := false) E1.out E2.out E3.out E4.out rfl), HSn.out⟩
    · skip
      rcases e4 : gst bs s3 0 0 255 with ⟨s4, e'⟩
      have E4 := Hid.in e4
      clear e4
      rcases e5 : gst bs s4 0 0 3 with ⟨s5, o'⟩
      have E5 := Hid.in e5
      clear e5
      go_wp2_with fail
      refine (qin_g _ _ ao cap bs s3 s4 0 255 _ 0 HS0.out.qd E4.out).mono ?_
      rintro r v4 ⟨rfl, hq, hg⟩
      have HSn : Hid (GQ w (w.heap.size + 1) M ao cap bs s4 #[.int .i64 9, .int .i64 c', .int .i64 l', .int .i64 0, .int .i64 0, .int .i64 0, .int .i64 0, .int .u32 0, .int .u32 0, .int .u32 0, .int .u32 0, .int .u32 0, .bool false] v4) := Hid.in (HS0.out.in hq hg)
      clear hq hg HS0
      have HS0 := HSn
      clear HSn
      have z5 : v4.cell? ⟨M, 5, none⟩ = some (.int .i64 0) := blk_cell HS0.out.bM rfl
      have y5 : v4.frozen? ⟨M, 5, none⟩ = false := blk_free HS0.out.bM
      have HSn : Hid (GQ w (w.heap.size + 1) M ao cap bs s4 #[.int .i64 9, .int .i64 c', .int .i64 l', .int .i64 0, .int .i64 0, .int .i64 e', .int .i64 0, .int .u32 0, .int .u32 0, .int .u32 0, .int .u32 0, .int .u32 0, .bool false] (v4.setCell ⟨M, 5, none⟩ (.int .i64 e'))) := Hid.in (HS0.out.set 5 (.int .i64 e'))
      go_upto_region 21 with fail
      generalize hX : (v4.setCell ⟨M, 5, none⟩ (.int .i64 e')) = Y1 at *
      clear hX HS0 z5 y5
      have HS0 := HSn
      clear HSn
      go_wp2_with fail
      refine (qin_g _ _ ao cap bs s4 s5 0 3 _ 0 HS0.out.qd E5.out).mono ?_
      rintro r v5 ⟨rfl, hq, hg⟩
      have HSn : Hid (GQ w (w.heap.size + 1) M ao cap bs s5 #[.int .i64 9, .int .i64 c', .int .i64 l', .int .i64 0, .int .i64 0, .int .i64 e', .int .i64 0, .int .u32 0, .int .u32 0, .int .u32 0, .int .u32 0, .int .u32 0, .bool false] v5) := Hid.in (HS0.out.in hq hg)
      clear hq hg HS0
      have HS0 := HSn
      clear HSn
      have z4 : v5.cell? ⟨M, 4, none⟩ = some (.int .i64 0) := blk_cell HS0.out.bM rfl
      have y4 : v5.frozen? ⟨M, 4, none⟩ = false := blk_free HS0.out.bM
      have HSn : Hid (GQ w (w.heap.size + 1) M ao cap bs s5 #[.int .i64 9, .int .i64 c', .int .i64 l', .int .i64 0, .int .i64 o', .int .i64 e', .int .i64 0, .int .u32 0, .int .u32 0, .int .u32 0, .int .u32 0, .int .u32 0, .bool false] (v5.setCell ⟨M, 4, none⟩ (.int .i64 o'))) := Hid.in (HS0.out.set 4 (.int .i64 o'))
      go_wp2
      go_meet
      case rel => exact ⟨_, _, (show walkP (gst bs) (0, 0) zero13 = _ from walkP_C (h := false) E1.out E2.out E3.out E4.out E5.out rfl), HSn.out⟩
    · skip
      rcases e4 : gst bs s3 0 0 3 with ⟨s4, o'⟩
      have E4 := Hid.in e4
      clear e4
      rcases e5 : gst bs s4 0 0 255 with ⟨s5, e'⟩
      have E5 := Hid.in e5
      clear e5
      rcases e6 : gst bs s5 0 0 4 with ⟨s6, t'⟩
      have E6 := Hid.in e6
      clear e6
      rcases e7 : gst bs s6 0 0 1 with ⟨s7, h'⟩
      have E7 := Hid.in e7
      clear e7
      go_wp2_with fail
      refine (qin_g _ _ ao cap bs s3 s4 0 3 _ 0 HS0.out.qd E4.out).mono ?_
      rintro r v4 ⟨rfl, hq, hg⟩
      have HSn : Hid (GQ w (w.heap.size + 1) M ao cap bs s4 #[.int .i64 13, .int .i64 c', .int .i64 l', .int .i64 0, .int .i64 0, .int .i64 0, .int .i64 0, .int .u32 0, .int .u32 0, .int .u32 0, .int .u32 0, .int .u32 0, .bool false] v4) := Hid.in (HS0.out.in hq hg)
      clear hq hg HS0
      have HS0 := HSn
      clear HSn
      go_wp2_with fail
      refine (qin_g _ _ ao cap bs s4 s5 0 255 _ 0 HS0.out.qd E5.out).mono ?_
      rintro r v5 ⟨rfl, hq, hg⟩
      have HSn : Hid (GQ w (w.heap.size + 1) M ao cap bs s5 #[.int .i64 13, .int .i64 c', .int .i64 l', .int .i64 0, .int .i64 0, .int .i64 0, .int .i64 0, .int .u32 0, .int .u32 0, .int .u32 0, .int .u32 0, .int .u32 0, .bool false] v5) := Hid.in (HS0.out.in hq hg)
      clear hq hg HS0
      have HS0 := HSn
      clear HSn
      have z4 : v5.cell? ⟨M, 4, none⟩ = some (.int .i64 0) := blk_cell HS0.out.bM rfl
      have y4 : v5.frozen? ⟨M, 4, none⟩ = false := blk_free HS0.out.bM
      have z5 : v5.cell? ⟨M, 5, none⟩ = some (.int .i64 0) := blk_cell HS0.out.bM rfl
      have y5 : v5.frozen? ⟨M, 5, none⟩ = false := blk_free HS0.out.bM
      have HSn : Hid (GQ w (w.heap.size + 1) M ao cap bs s5 #[.int .i64 13, .int .i64 c', .int .i64 l', .int .i64 0, .int .i64 o', .int .i64 e', .int .i64 0, .int .u32 0, .int .u32 0, .int .u32 0, .int .u32 0, .int .u32 0, .bool false] ((v5.setCell ⟨M, 4, none⟩ (.int .i64 o')).setCell ⟨M, 5, none⟩ (.int .i64 e'))) := Hid.in ((HS0.out.set 4 (.int .i64 o')).set 5 (.int .i64 e'))
      go_upto_region 12 with fail
      generalize hX : ((v5.setCell ⟨M, 4, none⟩ (.int .i64 o')).setCell ⟨M, 5, none⟩ (.int .i64 e')) = Y1 at *
      clear hX HS0 z4 y4 z5 y5
      have HS0 := HSn
      clear HSn
      go_wp2_with fail
      refine (qin_g _ _ ao cap bs s5 s6 0 4 _ 0 HS0.out.qd E6.out).mono ?_
      rintro r v6 ⟨rfl, hq, hg⟩
      have HSn : Hid (GQ w (w.heap.size + 1) M ao cap bs s6 #[.int .i64 13, .int .i64 c', .int .i64 l', .int .i64 0, .int .i64 o', .int .i64 e', .int .i64 0, .int .u32 0, .int .u32 0, .int .u32 0, .int .u32 0, .int .u32 0, .bool false] v6) := Hid.in (HS0.out.in hq hg)
      clear hq hg HS0
      have HS0 := HSn
      clear HSn
      have z3 : v6.cell? ⟨M, 3, none⟩ = some (.int .i64 0) := blk_cell HS0.out.bM rfl
      have y3 : v6.frozen? ⟨M, 3, none⟩ = false := blk_free HS0.out.bM
      have HSn : Hid (GQ w (w.heap.size + 1) M ao cap bs s6 #[.int .i64 13, .int .i64 c', .int .i64 l', .int .i64 t', .int .i64 o', .int .i64 e', .int .i64 0, .int .u32 0, .int .u32 0, .int .u32 0, .int .u32 0, .int .u32 0, .bool false] (v6.setCell ⟨M, 3, none⟩ (.int .i64 t'))) := Hid.in (HS0.out.set 3 (.int .i64 t'))
      go_upto_region 13 with fail
      generalize hX : (v6.setCell ⟨M, 3, none⟩ (.int .i64 t')) = Y2 at *
      clear hX HS0 z3 y3
      have HS0 := HSn
      clear HSn
      go_wp2_with fail
      refine (qin_g _ _ ao cap bs s6 s7 0 1 _ 0 HS0.out.qd E7.out).mono ?_
      rintro r v7 ⟨rfl, hq, hg⟩
      have HSn : Hid (GQ w (w.heap.size + 1) M ao cap bs s7 #[.int .i64 13, .int .i64 c', .int .i64 l', .int .i64 t', .int .i64 o', .int .i64 e', .int .i64 0, .int .u32 0, .int .u32 0, .int .u32 0, .int .u32 0, .int .u32 0, .bool false] v7) := Hid.in (HS0.out.in hq hg)
      clear hq hg HS0
      have HS0 := HSn
      clear HSn
      by_cases hh : h' = 1
      · subst hh
        have z12 : v7.cell? ⟨M, 12, none⟩ = some (.bool false) := blk_cell HS0.out.bM rfl
        have y12 : v7.frozen? ⟨M, 12, none⟩ = false := blk_free HS0.out.bM
        have HSn : Hid (GQ w (w.heap.size + 1) M ao cap bs s7 #[.int .i64 13, .int .i64 c', .int .i64 l', .int .i64 t', .int .i64 o', .int .i64 e', .int .i64 0, .int .u32 0, .int .u32 0, .int .u32 0, .int .u32 0, .int .u32 0, .bool true] (v7.setCell ⟨M, 12, none⟩ (.bool true))) := Hid.in (HS0.out.set 12 (.bool true))
        go_upto_region 14 with fail
        generalize hX : (v7.setCell ⟨M, 12, none⟩ (.bool true)) = Y3 at *
        clear hX HS0 z12 y12
        have HS0 := HSn
        clear HSn
        go_wp2_with fail
        refine wp_loop_rounds 5 ?_
        rcases e8 : gst bs s7 0 0 4294967295 with ⟨s8, d0'⟩
        have E8 := Hid.in e8
        have B8 := gst_num e8
        have B8a : 0 ≤ d0' ∧ d0' ≤ 4294967295 := by omega
        obtain ⟨B8b, B8c⟩ := B8a
        clear B8
        clear e8
        rcases e9 : gst bs s8 0 0 4294967295 with ⟨s9, d1'⟩
        have E9 := Hid.in e9
        have B9 := gst_num e9
        have B9a : 0 ≤ d1' ∧ d1' ≤ 4294967295 := by omega
        obtain ⟨B9b, B9c⟩ := B9a
        clear B9
        clear e9
        rcases e10 : gst bs s9 0 0 4294967295 with ⟨s10, d2'⟩
        have E10 := Hid.in e10
        have B10 := gst_num e10
        have B10a : 0 ≤ d2' ∧ d2' ≤ 4294967295 := by omega
        obtain ⟨B10b, B10c⟩ := B10a
        clear B10
        clear e10
        rcases e11 : gst bs s10 0 0 4294967295 with ⟨s11, d3'⟩
        have E11 := Hid.in e11
        have B11 := gst_num e11
        have B11a : 0 ≤ d3' ∧ d3' ≤ 4294967295 := by omega
        obtain ⟨B11b, B11c⟩ := B11a
        clear B11
        clear e11
        rw [rounds_succ]
        have p0 : Y3.cell? ⟨M, 12, none⟩ = some (.bool true) := blk_cell HS0.out.bM rfl
        have B8d : d0' < 4294967296 := by omega
        go_wp2_with fail
        refine (qin_g _ _ ao cap bs s7 s8 0 4294967295 _ 0 HS0.out.qd E8.out).mono ?_
        rintro r v8 ⟨rfl, hq, hg⟩
        have HSn : Hid (GQ w (w.heap.size + 1) M ao cap bs s8 #[.int .i64 13, .int .i64 c', .int .i64 l', .int .i64 t', .int .i64 o', .int .i64 e', .int .i64 0, .int .u32 0, .int .u32 0, .int .u32 0, .int .u32 0, .int .u32 0, .bool true] v8) := Hid.in (HS0.out.in hq hg)
        clear hq hg HS0
        have HS0 := HSn
        clear HSn
        clear p0
        have z8 : v8.cell? ⟨M, 8, none⟩ = some (.int .u32 0) := blk_cell HS0.out.bM rfl
        have y8 : v8.frozen? ⟨M, 8, none⟩ = false := blk_free HS0.out.bM
        have HSn : Hid (GQ w (w.heap.size + 1) M ao cap bs s8 #[.int .i64 13, .int .i64 c', .int .i64 l', .int .i64 t', .int .i64 o', .int .i64 e', .int .i64 0, .int .u32 0, .int .u32 d0', .int .u32 0, .int .u32 0, .int .u32 0, .bool true] (v8.setCell ⟨M, 8, none⟩ (.int .u32 d0'))) := Hid.in (HS0.out.set 8 (.int .u32 d0'))
        go_upto_region 19 with fail
        generalize hX : (v8.setCell ⟨M, 8, none⟩ (.int .u32 d0')) = Y4 at *
        clear hX HS0 z8 y8
        have HS0 := HSn
        clear HSn
        go_wp2_with fail
        rw [rounds_succ]
        have p0 : Y4.cell? ⟨M, 12, none⟩ = some (.bool true) := blk_cell HS0.out.bM rfl
        have B9d : d1' < 4294967296 := by omega
        go_wp2_with fail
        refine (qin_g _ _ ao cap bs s8 s9 0 4294967295 _ 0 HS0.out.qd E9.out).mono ?_
        rintro r v9 ⟨rfl, hq, hg⟩
        have HSn : Hid (GQ w (w.heap.size + 1) M ao cap bs s9 #[.int .i64 13, .int .i64 c', .int .i64 l', .int .i64 t', .int .i64 o', .int .i64 e', .int .i64 0, .int .u32 0, .int .u32 d0', .int .u32 0, .int .u32 0, .int .u32 0, .bool true] v9) := Hid.in (HS0.out.in hq hg)
        clear hq hg HS0
        have HS0 := HSn
        clear HSn
        clear p0
        have z9 : v9.cell? ⟨M, 9, none⟩ = some (.int .u32 0) := blk_cell HS0.out.bM rfl
        have y9 : v9.frozen? ⟨M, 9, none⟩ = false := blk_free HS0.out.bM
        have HSn : Hid (GQ w (w.heap.size + 1) M ao cap bs s9 #[.int .i64 13, .int .i64 c', .int .i64 l', .int .i64 t', .int .i64 o', .int .i64 e', .int .i64 0, .int .u32 0, .int .u32 d0', .int .u32 d1', .int .u32 0, .int .u32 0, .bool true] (v9.setCell ⟨M, 9, none⟩ (.int .u32 d1'))) := Hid.in (HS0.out.set 9 (.int .u32 d1'))
        go_upto_region 19 with fail
        generalize hX : (v9.setCell ⟨M, 9, none⟩ (.int .u32 d1')) = Y5 at *
        clear hX HS0 z9 y9
        have HS0 := HSn
        clear HSn
        go_wp2_with fail
        rw [rounds_succ]
        have p0 : Y5.cell? ⟨M, 12, none⟩ = some (.bool true) := blk_cell HS0.out.bM rfl
        have B10d : d2' < 4294967296 := by omega
        go_wp2_with fail
        refine (qin_g _ _ ao cap bs s9 s10 0 4294967295 _ 0 HS0.out.qd E10.out).mono ?_
        rintro r v10 ⟨rfl, hq, hg⟩
        have HSn : Hid (GQ w (w.heap.size + 1) M ao cap bs s10 #[.int .i64 13, .int .i64 c', .int .i64 l', .int .i64 t', .int .i64 o', .int .i64 e', .int .i64 0, .int .u32 0, .int .u32 d0', .int .u32 d1', .int .u32 0, .int .u32 0, .bool true] v10) := Hid.in (HS0.out.in hq hg)
        clear hq hg HS0
        have HS0 := HSn
        clear HSn
        clear p0
        have z10 : v10.cell? ⟨M, 10, none⟩ = some (.int .u32 0) := blk_cell HS0.out.bM rfl
        have y10 : v10.frozen? ⟨M, 10, none⟩ = false := blk_free HS0.out.bM
        have HSn : Hid (GQ w (w.heap.size + 1) M ao cap bs s10 #[.int .i64 13, .int .i64 c', .int .i64 l', .int .i64 t', .int .i64 o', .int .i64 e', .int .i64 0, .int .u32 0, .int .u32 d0', .int .u32 d1', .int .u32 d2', .int .u32 0, .bool true] (v10.setCell ⟨M, 10, none⟩ (.int .u32 d2'))) := Hid.in (HS0.out.set 10 (.int .u32 d2'))
        go_upto_region 19 with fail
        generalize hX : (v10.setCell ⟨M, 10, none⟩ (.int .u32 d2')) = Y6 at *
        clear hX HS0 z10 y10
        have HS0 := HSn
        clear HSn
        go_wp2_with fail
        rw [rounds_succ]
        have p0 : Y6.cell? ⟨M, 12, none⟩ = some (.bool true) := blk_cell HS0.out.bM rfl
        have B11d : d3' < 4294967296 := by omega
        go_wp2_with fail
        refine (qin_g _ _ ao cap bs s10 s11 0 4294967295 _ 0 HS0.out.qd E11.out).mono ?_
        rintro r v11 ⟨rfl, hq, hg⟩
        have HSn : Hid (GQ w (w.heap.size + 1) M ao cap bs s11 #[.int .i64 13, .int .i64 c', .int .i64 l', .int .i64 t', .int .i64 o', .int .i64 e', .int .i64 0, .int .u32 0, .int .u32 d0', .int .u32 d1', .int .u32 d2', .int .u32 0, .bool true] v11) := Hid.in (HS0.out.in hq hg)
        clear hq hg HS0
        have HS0 := HSn
        clear HSn
        clear p0
        have z11 : v11.cell? ⟨M, 11, none⟩ = some (.int .u32 0) := blk_cell HS0.out.bM rfl
        have y11 : v11.frozen? ⟨M, 11, none⟩ = false := blk_free HS0.out.bM
        have HSn : Hid (GQ w (w.heap.size + 1) M ao cap bs s11 #[.int .i64 13, .int .i64 c', .int .i64 l', .int .i64 t', .int .i64 o', .int .i64 e', .int .i64 0, .int .u32 0, .int .u32 d0', .int .u32 d1', .int .u32 d2', .int .u32 d3', .bool true] (v11.setCell ⟨M, 11, none⟩ (.int .u32 d3'))) := Hid.in (HS0.out.set 11 (.int .u32 d3'))
        go_upto_region 19 with fail
        generalize hX : (v11.setCell ⟨M, 11, none⟩ (.int .u32 d3')) = Y7 at *
        clear hX HS0 z11 y11
        have HS0 := HSn
        clear HSn
        go_wp2_with fail
        rw [rounds_succ]
        go_wp2
        go_meet
        case rel => exact ⟨_, _, (show walkP (gst bs) (0, 0) zero13 = _ from walkP_D1 (h := false) E1.out E2.out E3.out E4.out E5.out E6.out E7.out E8.out E9.out E10.out E11.out rfl), HS0.out⟩
      · have gb : (h' == (1 : Int)) = false := by simpa using hh
        have HH := Hid.in hh
        clear hh
        have z12 : v7.cell? ⟨M, 12, none⟩ = some (.bool false) := blk_cell HS0.out.bM rfl
        have y12 : v7.frozen? ⟨M, 12, none⟩ = false := blk_free HS0.out.bM
        have HSn : Hid (GQ w (w.heap.size + 1) M ao cap bs s7 #[.int .i64 13, .int .i64 c', .int .i64 l', .int .i64 t', .int .i64 o', .int .i64 e', .int .i64 0, .int .u32 0, .int .u32 0, .int .u32 0, .int .u32 0, .int .u32 0, .bool false] (v7.setCell ⟨M, 12, none⟩ (.bool false))) := Hid.in (HS0.out.set 12 (.bool false))
        go_upto_region 14 with fail
        generalize hX : (v7.setCell ⟨M, 12, none⟩ (.bool false)) = Y3 at *
        clear hX HS0 z12 y12
        have HS0 := HSn
        clear HSn
        go_wp2_with fail
        refine wp_loop_rounds 5 ?_
        have p0 : Y3.cell? ⟨M, 12, none⟩ = some (.bool false) := blk_cell HS0.out.bM rfl
        rw [rounds_succ]
        go_wp2_with fail
        rw [rounds_succ]
        go_wp2_with fail
        rw [rounds_succ]
        go_wp2_with fail
        rw [rounds_succ]
        go_wp2_with fail
        rw [rounds_succ]
        go_wp2
        go_meet
        case rel => exact ⟨_, _, (show walkP (gst bs) (0, 0) zero13 = _ from walkP_D0 (h := false) E1.out E2.out E3.out E4.out E5.out E6.out E7.out rfl HH.out), HS0.out⟩
    · skip
      rcases e4 : gst bs s3 0 0 4 with ⟨s4, t'⟩
      have E4 := Hid.in e4
      clear e4
      rcases e5 : gst bs s4 0 0 1 with ⟨s5, h'⟩
      have E5 := Hid.in e5
      clear e5
      go_wp2_with fail
      refine (qin_g _ _ ao cap bs s3 s4 0 4 _ 0 HS0.out.qd E4.out).mono ?_
      rintro r v4 ⟨rfl, hq, hg⟩
      have HSn : Hid (GQ w (w.heap.size + 1) M ao cap bs s4 #[.int .i64 11, .int .i64 c', .int .i64 l', .int .i64 0, .int .i64 0, .int .i64 0, .int .i64 0, .int .u32 0, .int .u32 0, .int .u32 0, .int .u32 0, .int .u32 0, .bool false] v4) := Hid.in (HS0.out.in hq hg)
      clear hq hg HS0
      have HS0 := HSn
      clear HSn
      have z3 : v4.cell? ⟨M, 3, none⟩ = some (.int .i64 0) := blk_cell HS0.out.bM rfl
      have y3 : v4.frozen? ⟨M, 3, none⟩ = false := blk_free HS0.out.bM
      have HSn : Hid (GQ w (w.heap.size + 1) M ao cap bs s4 #[.int .i64 11, .int .i64 c', .int .i64 l', .int .i64 t', .int .i64 0, .int .i64 0, .int .i64 0, .int .u32 0, .int .u32 0, .int .u32 0, .int .u32 0, .int .u32 0, .bool false] (v4.setCell ⟨M, 3, none⟩ (.int .i64 t'))) := Hid.in (HS0.out.set 3 (.int .i64 t'))
      go_upto_region 13 with fail
      generalize hX : (v4.setCell ⟨M, 3, none⟩ (.int .i64 t')) = Y1 at *
      clear hX HS0 z3 y3
      have HS0 := HSn
      clear HSn
      go_wp2_with fail
      refine (qin_g _ _ ao cap bs s4 s5 0 1 _ 0 HS0.out.qd E5.out).mono ?_
      rintro r v5 ⟨rfl, hq, hg⟩
      have HSn : Hid (GQ w (w.heap.size + 1) M ao cap bs s5 #[.int .i64 11, .int .i64 c', .int .i64 l', .int .i64 t', .int .i64 0, .int .i64 0, .int .i64 0, .int .u32 0, .int .u32 0, .int .u32 0, .int .u32 0, .int .u32 0, .bool false] v5) := Hid.in (HS0.out.in hq hg)
      clear hq hg HS0
      have HS0 := HSn
      clear HSn
      by_cases hh : h' = 1
      · subst hh
        have z12 : v5.cell? ⟨M, 12, none⟩ = some (.bool false) := blk_cell HS0.out.bM rfl
        have y12 : v5.frozen? ⟨M, 12, none⟩ = false := blk_free HS0.out.bM
        have HSn : Hid (GQ w (w.heap.size + 1) M ao cap bs s5 #[.int .i64 11, .int .i64 c', .int .i64 l', .int .i64 t', .int .i64 0, .int .i64 0, .int .i64 0, .int .u32 0, .int .u32 0, .int .u32 0, .int .u32 0, .int .u32 0, .bool true] (v5.setCell ⟨M, 12, none⟩ (.bool true))) := Hid.in (HS0.out.set 12 (.bool true))
        go_upto_region 14 with fail
        generalize hX : (v5.setCell ⟨M, 12, none⟩ (.bool true)) = Y2 at *
        clear hX HS0 z12 y12
        have HS0 := HSn
        clear HSn
        go_wp2_with fail
        refine wp_loop_rounds 5 ?_
        rcases e6 : gst bs s5 0 0 4294967295 with ⟨s6, d0'⟩
        have E6 := Hid.in e6
        have B6 := gst_num e6
        have B6a : 0 ≤ d0' ∧ d0' ≤ 4294967295 := by omega
        obtain ⟨B6b, B6c⟩ := B6a
        clear B6
        clear e6
        rcases e7 : gst bs s6 0 0 4294967295 with ⟨s7, d1'⟩
        have E7 := Hid.in e7
        have B7 := gst_num e7
        have B7a : 0 ≤ d1' ∧ d1' ≤ 4294967295 := by omega
        obtain ⟨B7b, B7c⟩ := B7a
        clear B7
        clear e7
        rcases e8 : gst bs s7 0 0 4294967295 with ⟨s8, d2'⟩
        have E8 := Hid.in e8
        have B8 := gst_num e8
        have B8a : 0 ≤ d2' ∧ d2' ≤ 4294967295 := by omega
        obtain ⟨B8b, B8c⟩ := B8a
        clear B8
        clear e8
        rcases e9 : gst bs s8 0 0 4294967295 with ⟨s9, d3'⟩
        have E9 := Hid.in e9
        have B9 := gst_num e9
        have B9a : 0 ≤ d3' ∧ d3' ≤ 4294967295 := by omega
        obtain ⟨B9b, B9c⟩ := B9a
        clear B9
        clear e9
        rw [rounds_succ]
        have p0 : Y2.cell? ⟨M, 12, none⟩ = some (.bool true) := blk_cell HS0.out.bM rfl
        have B6d : d0' < 4294967296 := by omega
        go_wp2_with fail
        refine (qin_g _ _ ao cap bs s5 s6 0 4294967295 _ 0 HS0.out.qd E6.out).mono ?_
        rintro r v6 ⟨rfl, hq, hg⟩
        have HSn : Hid (GQ w (w.heap.size + 1) M ao cap bs s6 #[.int .i64 11, .int .i64 c', .int .i64 l', .int .i64 t', .int .i64 0, .int .i64 0, .int .i64 0, .int .u32 0, .int .u32 0, .int .u32 0, .int .u32 0, .int .u32 0, .bool true] v6) := Hid.in (HS0.out.in hq hg)
        clear hq hg HS0
        have HS0 := HSn
        clear HSn
        clear p0
        have z8 : v6.cell? ⟨M, 8, none⟩ = some (.int .u32 0) := blk_cell HS0.out.bM rfl
        have y8 : v6.frozen? ⟨M, 8, none⟩ = false := blk_free HS0.out.bM
        have HSn : Hid (GQ w (w.heap.size + 1) M ao cap bs s6 #[.int .i64 11, .int .i64 c', .int .i64 l', .int .i64 t', .int .i64 0, .int .i64 0, .int .i64 0, .int .u32 0, .int .u32 d0', .int .u32 0, .int .u32 0, .int .u32 0, .bool true] (v6.setCell ⟨M, 8, none⟩ (.int .u32 d0'))) := Hid.in (HS0.out.set 8 (.int .u32 d0'))
        go_upto_region 19 with fail
        generalize hX : (v6.setCell ⟨M, 8, none⟩ (.int .u32 d0')) = Y3 at *
        clear hX HS0 z8 y8
        have HS0 := HSn
        clear HSn
        go_wp2_with fail
        rw [rounds_succ]
        have p0 : Y3.cell? ⟨M, 12, none⟩ = some (.bool true) := blk_cell HS0.out.bM rfl
        have B7d : d1' < 4294967296 := by omega
        go_wp2_with fail
        refine (qin_g _ _ ao cap bs s6 s7 0 4294967295 _ 0 HS0.out.qd E7.out).mono ?_
        rintro r v7 ⟨rfl, hq, hg⟩
        have HSn : Hid (GQ w (w.heap.size + 1) M ao cap bs s7 #[.int .i64 11, .int .i64 c', .int .i64 l', .int .i64 t', .int .i64 0, .int .i64 0, .int .i64 0, .int .u32 0, .int .u32 d0', .int .u32 0, .int .u32 0, .int .u32 0, .bool true] v7) := Hid.in (HS0.out.in hq hg)
        clear hq hg HS0
        have HS0 := HSn
        clear HSn
        clear p0
        have z9 : v7.cell? ⟨M, 9, none⟩ = some (.int .u32 0) := blk_cell HS0.out.bM rfl
        have y9 : v7.frozen? ⟨M, 9, none⟩ = false := blk_free HS0.out.bM
        have HSn : Hid (GQ w (w.heap.size + 1) M ao cap bs s7 #[.int .i64 11, .int .i64 c', .int .i64 l', .int .i64 t', .int .i64 0, .int .i64 0, .int .i64 0, .int .u32 0, .int .u32 d0', .int .u32 d1', .int .u32 0, .int .u32 0, .bool true] (v7.setCell ⟨M, 9, none⟩ (.int .u32 d1'))) := Hid.in (HS0.out.set 9 (.int .u32 d1'))
        go_upto_region 19 with fail
        generalize hX : (v7.setCell ⟨M, 9, none⟩ (.int .u32 d1')) = Y4 at *
        clear hX HS0 z9 y9
        have HS0 := HSn
        clear HSn
        go_wp2_with fail
        rw [rounds_succ]
        have p0 : Y4.cell? ⟨M, 12, none⟩ = some (.bool true) := blk_cell HS0.out.bM rfl
        have B8d : d2' < 4294967296 := by omega
        go_wp2_with fail
        refine (qin_g _ _ ao cap bs s7 s8 0 4294967295 _ 0 HS0.out.qd E8.out).mono ?_
        rintro r v8 ⟨rfl, hq, hg⟩
        have HSn : Hid (GQ w (w.heap.size + 1) M ao cap bs s8 #[.int .i64 11, .int .i64 c', .int .i64 l', .int .i64 t', .int .i64 0, .int .i64 0, .int .i64 0, .int .u32 0, .int .u32 d0', .int .u32 d1', .int .u32 0, .int .u32 0, .bool true] v8) := Hid.in (HS0.out.in hq hg)
        clear hq hg HS0
        have HS0 := HSn
        clear HSn
        clear p0
        have z10 : v8.cell? ⟨M, 10, none⟩ = some (.int .u32 0) := blk_cell HS0.out.bM rfl
        have y10 : v8.frozen? ⟨M, 10, none⟩ = false := blk_free HS0.out.bM
        have HSn : Hid (GQ w (w.heap.size + 1) M ao cap bs s8 #[.int .i64 11, .int .i64 c', .int .i64 l', .int .i64 t', .int .i64 0, .int .i64 0, .int .i64 0, .int .u32 0, .int .u32 d0', .int .u32 d1', .int .u32 d2', .int .u32 0, .bool true] (v8.setCell ⟨M, 10, none⟩ (.int .u32 d2'))) := Hid.in (HS0.out.set 10 (.int .u32 d2'))
        go_upto_region 19 with fail
        generalize hX : (v8.setCell ⟨M, 10, none⟩ (.int .u32 d2')) = Y5 at *
        clear hX HS0 z10 y10
        have HS0 := HSn
        clear HSn
        go_wp2_with fail
        rw [rounds_succ]
        have p0 : Y5.cell? ⟨M, 12, none⟩ = some (.bool true) := blk_cell HS0.out.bM rfl
        have B9d : d3' < 4294967296 := by omega
        go_wp2_with fail
        refine (qin_g _ _ ao cap bs s8 s9 0 4294967295 _ 0 HS0.out.qd E9.out).mono ?_
        rintro r v9 ⟨rfl, hq, hg⟩
        have HSn : Hid (GQ w (w.heap.size + 1) M ao cap bs s9 #[.int .i64 11, .int .i64 c', .int .i64 l', .int .i64 t', .int .i64 0, .int .i64 0, .int .i64 0, .int .u32 0, .int .u32 d0', .int .u32 d1', .int .u32 d2', .int .u32 0, .bool true] v9) := Hid.in (HS0.out.in hq hg)
        clear hq hg HS0
        have HS0 := HSn
        clear HSn
        clear p0
        have z11 : v9.cell? ⟨M, 11, none⟩ = some (.int .u32 0) := blk_cell HS0.out.bM rfl
        have y11 : v9.frozen? ⟨M, 11, none⟩ = false := blk_free HS0.out.bM
        have HSn : Hid (GQ w (w.heap.size + 1) M ao cap bs s9 #[.int .i64 11, .int .i64 c', .int .i64 l', .int .i64 t', .int .i64 0, .int .i64 0, .int .i64 0, .int .u32 0, .int .u32 d0', .int .u32 d1', .int .u32 d2', .int .u32 d3', .bool true] (v9.setCell ⟨M, 11, none⟩ (.int .u32 d3'))) := Hid.in (HS0.out.set 11 (.int .u32 d3'))
        go_upto_region 19 with fail
        generalize hX : (v9.setCell ⟨M, 11, none⟩ (.int .u32 d3')) = Y6 at *
        clear hX HS0 z11 y11
        have HS0 := HSn
        clear HSn
        go_wp2_with fail
        rw [rounds_succ]
        go_wp2
        go_meet
        case rel => exact ⟨_, _, (show walkP (gst bs) (0, 0) zero13 = _ from walkP_A1 (h := false) E1.out E2.out E3.out E4.out E5.out E6.out E7.out E8.out E9.out rfl), HS0.out⟩
      · have gb : (h' == (1 : Int)) = false := by simpa using hh
        have HH := Hid.in hh
        clear hh
        have z12 : v5.cell? ⟨M, 12, none⟩ = some (.bool false) := blk_cell HS0.out.bM rfl
        have y12 : v5.frozen? ⟨M, 12, none⟩ = false := blk_free HS0.out.bM
        have HSn : Hid (GQ w (w.heap.size + 1) M ao cap bs s5 #[.int .i64 11, .int .i64 c', .int .i64 l', .int .i64 t', .int .i64 0, .int .i64 0, .int .i64 0, .int .u32 0, .int .u32 0, .int .u32 0, .int .u32 0, .int .u32 0, .bool false] (v5.setCell ⟨M, 12, none⟩ (.bool false))) := Hid.in (HS0.out.set 12 (.bool false))
        go_upto_region 14 with fail
        generalize hX : (v5.setCell ⟨M, 12, none⟩ (.bool false)) = Y2 at *
        clear hX HS0 z12 y12
        have HS0 := HSn
        clear HSn
        go_wp2_with fail
        refine wp_loop_rounds 5 ?_
        have p0 : Y2.cell? ⟨M, 12, none⟩ = some (.bool false) := blk_cell HS0.out.bM rfl
        rw [rounds_succ]
        go_wp2_with fail
        rw [rounds_succ]
        go_wp2_with fail
        rw [rounds_succ]
        go_wp2_with fail
        rw [rounds_succ]
        go_wp2_with fail
        rw [rounds_succ]
        go_wp2
        go_meet
        case rel => exact ⟨_, _, (show walkP (gst bs) (0, 0) zero13 = _ from walkP_A0 (h := false) E1.out E2.out E3.out E4.out E5.out rfl HH.out), HS0.out⟩
    · skip
      go_wp2
      go_meet
      case rel => exact ⟨_, _, (show walkP (gst bs) (0, 0) zero13 = _ from walkP_B (h := false) E1.out E2.out E3.out ⟨by omega, g9, g5, g13, g11⟩), HS0.out⟩
  case rest =>
    obtain ⟨s, m, hgm, hcs⟩ := hcut
    rename World => W1
    obtain ⟨cd, p⟩ := s
    obtain ⟨k, c, l, t, o, e, w_, v, d0, d1, d2, d3, h⟩ := m
    simp only [mv] at hcs
    have HS1 := Hid.in hcs
    have HG : Hid (∀ u, endS bs p cd = u → (gotM bs) = if u ≠ 0 then (u, zero13) else if rtB (k, c, l, t, o, e, w_, v, d0, d1, d2, d3, h) then (0, (k, c, l, t, o, e, w_, v, d0, d1, d2, d3, h)) else (4, zero13)) := Hid.in (fun u hu => by unfold gotM; rw [hgm, hu])
    have HNUM := Hid.in (getM_num bs)
    rw [hgm] at HNUM
    clear hcs hgm HS0
    go_wp2_with fail
    refine (qend_any _ _ ao cap bs p cd HS1.out.qd).mono ?_
    rintro r W2 ⟨rfl, hq, hg⟩
    obtain ⟨u, hu⟩ : ∃ u, endS bs p cd = u := ⟨_, rfl⟩
    have hgo := HG.out u hu
    rw [hu] at hq ⊢
    have HS2 : Hid (GQ w (w.heap.size + 1) M ao cap bs (u, p) #[.int .i64 k, .int .i64 c, .int .i64 l, .int .i64 t, .int .i64 o, .int .i64 e, .int .i64 w_, .int .u32 v, .int .u32 d0, .int .u32 d1, .int .u32 d2, .int .u32 d3, .bool h] W2) := Hid.in (HS1.out.in hq hg)
    clear hq hg HS1 hu
    have HGO := Hid.in hgo
    clear hgo HG
    by_cases h0 : u = 0
    · subst h0
      have hr := fun W => qsRight_any (k, c, l, t, o, e, w_, v, d0, d1, d2, d3, h) W HNUM.out.2
      have hee := HGO.out
      rw [if_neg (by decide)] at hee
      rcases hrt : rtB (k, c, l, t, o, e, w_, v, d0, d1, d2, d3, h) with _ | _
      · rw [hrt] at hr hee
        rw [if_neg (by decide)] at hee
        simp only [mv] at hr
        have HR := Hid.in hr
        have HEE := Hid.in hee
        clear hr hee hrt
        have x0 : W2.cell? ⟨M, 0, none⟩ = some (.int .i64 k) := blk_cell HS2.out.bM rfl
        have x1 : W2.cell? ⟨M, 1, none⟩ = some (.int .i64 c) := blk_cell HS2.out.bM rfl
        have x2 : W2.cell? ⟨M, 2, none⟩ = some (.int .i64 l) := blk_cell HS2.out.bM rfl
        have x3 : W2.cell? ⟨M, 3, none⟩ = some (.int .i64 t) := blk_cell HS2.out.bM rfl
        have x4 : W2.cell? ⟨M, 4, none⟩ = some (.int .i64 o) := blk_cell HS2.out.bM rfl
        have x5 : W2.cell? ⟨M, 5, none⟩ = some (.int .i64 e) := blk_cell HS2.out.bM rfl
        have x6 : W2.cell? ⟨M, 6, none⟩ = some (.int .i64 w_) := blk_cell HS2.out.bM rfl
        have x7 : W2.cell? ⟨M, 7, none⟩ = some (.int .u32 v) := blk_cell HS2.out.bM rfl
        have x8 : W2.cell? ⟨M, 8, none⟩ = some (.int .u32 d0) := blk_cell HS2.out.bM rfl
        have x9 : W2.cell? ⟨M, 9, none⟩ = some (.int .u32 d1) := blk_cell HS2.out.bM rfl
        have x10 : W2.cell? ⟨M, 10, none⟩ = some (.int .u32 d2) := blk_cell HS2.out.bM rfl
        have x11 : W2.cell? ⟨M, 11, none⟩ = some (.int .u32 d3) := blk_cell HS2.out.bM rfl
        have x12 : W2.cell? ⟨M, 12, none⟩ = some (.bool h) := blk_cell HS2.out.bM rfl
        go_wp2_with fail
        refine (HR.out _).mono ?_
        rintro r W3 ⟨rfl, hb⟩
        have HS3 := Hid.in (HS2.out.step hb)
        clear hb HS2
        clear x0 x1 x2 x3 x4 x5 x6 x7 x8 x9 x10 x11 x12
        have z0 : W3.cell? ⟨w.heap.size, 0, none⟩ = some (.int .i64 0) := blk_cell HS3.out.bR rfl
        have y0 : W3.frozen? ⟨w.heap.size, 0, none⟩ = false := blk_free HS3.out.bR
        have z1 : W3.cell? ⟨w.heap.size, 1, none⟩ = some (.int .i64 0) := blk_cell HS3.out.bR rfl
        have y1 : W3.frozen? ⟨w.heap.size, 1, none⟩ = false := blk_free HS3.out.bR
        have z2 : W3.cell? ⟨w.heap.size, 2, none⟩ = some (.int .i64 0) := blk_cell HS3.out.bR rfl
        have y2 : W3.frozen? ⟨w.heap.size, 2, none⟩ = false := blk_free HS3.out.bR
        have z3 : W3.cell? ⟨w.heap.size, 3, none⟩ = some (.int .i64 0) := blk_cell HS3.out.bR rfl
        have y3 : W3.frozen? ⟨w.heap.size, 3, none⟩ = false := blk_free HS3.out.bR
        have z4 : W3.cell? ⟨w.heap.size, 4, none⟩ = some (.int .i64 0) := blk_cell HS3.out.bR rfl
        have y4 : W3.frozen? ⟨w.heap.size, 4, none⟩ = false := blk_free HS3.out.bR
        have z5 : W3.cell? ⟨w.heap.size, 5, none⟩ = some (.int .i64 0) := blk_cell HS3.out.bR rfl
        have y5 : W3.frozen? ⟨w.heap.size, 5, none⟩ = false := blk_free HS3.out.bR
        have z6 : W3.cell? ⟨w.heap.size, 6, none⟩ = some (.int .i64 0) := blk_cell HS3.out.bR rfl
        have y6 : W3.frozen? ⟨w.heap.size, 6, none⟩ = false := blk_free HS3.out.bR
        have z7 : W3.cell? ⟨w.heap.size, 7, none⟩ = some (.int .u32 0) := blk_cell HS3.out.bR rfl
        have y7 : W3.frozen? ⟨w.heap.size, 7, none⟩ = false := blk_free HS3.out.bR
        have z8 : W3.cell? ⟨w.heap.size, 8, none⟩ = some (.int .u32 0) := blk_cell HS3.out.bR rfl
        have y8 : W3.frozen? ⟨w.heap.size, 8, none⟩ = false := blk_free HS3.out.bR
        have z9 : W3.cell? ⟨w.heap.size, 9, none⟩ = some (.int .u32 0) := blk_cell HS3.out.bR rfl
        have y9 : W3.frozen? ⟨w.heap.size, 9, none⟩ = false := blk_free HS3.out.bR
        have z10 : W3.cell? ⟨w.heap.size, 10, none⟩ = some (.int .u32 0) := blk_cell HS3.out.bR rfl
        have y10 : W3.frozen? ⟨w.heap.size, 10, none⟩ = false := blk_free HS3.out.bR
        have z11 : W3.cell? ⟨w.heap.size, 11, none⟩ = some (.int .u32 0) := blk_cell HS3.out.bR rfl
        have y11 : W3.frozen? ⟨w.heap.size, 11, none⟩ = false := blk_free HS3.out.bR
        have z12 : W3.cell? ⟨w.heap.size, 12, none⟩ = some (.bool false) := blk_cell HS3.out.bR rfl
        have y12 : W3.frozen? ⟨w.heap.size, 12, none⟩ = false := blk_free HS3.out.bR
        go_wp2
        refine bodyPost_ret (v := .tuple #[.agg #[.int .i64 0, .int .i64 0, .int .i64 0, .int .i64 0, .int .i64 0, .int .i64 0, .int .i64 0, .int .u32 0, .int .u32 0, .int .u32 0, .int .u32 0, .int .u32 0, .bool false], .int .i64 4, .int .i64 0]) ?_ rfl ⟨_, by rw [HEE.out]; rfl, ?_⟩
        · rw [results_cell3 rfl]
          go_simp
          all_goals rfl
        · exact (((((((((((((HS3.out.be.setCell (p := ⟨w.heap.size, 0, none⟩) (Nat.le_refl _) _).setCell (p := ⟨w.heap.size, 1, none⟩) (Nat.le_refl _) _).setCell (p := ⟨w.heap.size, 2, none⟩) (Nat.le_refl _) _).setCell (p := ⟨w.heap.size, 3, none⟩) (Nat.le_refl _) _).setCell (p := ⟨w.heap.size, 4, none⟩) (Nat.le_refl _) _).setCell (p := ⟨w.heap.size, 5, none⟩) (Nat.le_refl _) _).setCell (p := ⟨w.heap.size, 6, none⟩) (Nat.le_refl _) _).setCell (p := ⟨w.heap.size, 7, none⟩) (Nat.le_refl _) _).setCell (p := ⟨w.heap.size, 8, none⟩) (Nat.le_refl _) _).setCell (p := ⟨w.heap.size, 9, none⟩) (Nat.le_refl _) _).setCell (p := ⟨w.heap.size, 10, none⟩) (Nat.le_refl _) _).setCell (p := ⟨w.heap.size, 11, none⟩) (Nat.le_refl _) _).setCell (p := ⟨w.heap.size, 12, none⟩) (Nat.le_refl _) _)
      · rw [hrt] at hr hee
        rw [if_pos rfl] at hee
        simp only [mv] at hr
        have HR := Hid.in hr
        have HEE := Hid.in hee
        clear hr hee hrt
        have x0 : W2.cell? ⟨M, 0, none⟩ = some (.int .i64 k) := blk_cell HS2.out.bM rfl
        have x1 : W2.cell? ⟨M, 1, none⟩ = some (.int .i64 c) := blk_cell HS2.out.bM rfl
        have x2 : W2.cell? ⟨M, 2, none⟩ = some (.int .i64 l) := blk_cell HS2.out.bM rfl
        have x3 : W2.cell? ⟨M, 3, none⟩ = some (.int .i64 t) := blk_cell HS2.out.bM rfl
        have x4 : W2.cell? ⟨M, 4, none⟩ = some (.int .i64 o) := blk_cell HS2.out.bM rfl
        have x5 : W2.cell? ⟨M, 5, none⟩ = some (.int .i64 e) := blk_cell HS2.out.bM rfl
        have x6 : W2.cell? ⟨M, 6, none⟩ = some (.int .i64 w_) := blk_cell HS2.out.bM rfl
        have x7 : W2.cell? ⟨M, 7, none⟩ = some (.int .u32 v) := blk_cell HS2.out.bM rfl
        have x8 : W2.cell? ⟨M, 8, none⟩ = some (.int .u32 d0) := blk_cell HS2.out.bM rfl
        have x9 : W2.cell? ⟨M, 9, none⟩ = some (.int .u32 d1) := blk_cell HS2.out.bM rfl
        have x10 : W2.cell? ⟨M, 10, none⟩ = some (.int .u32 d2) := blk_cell HS2.out.bM rfl
        have x11 : W2.cell? ⟨M, 11, none⟩ = some (.int .u32 d3) := blk_cell HS2.out.bM rfl
        have x12 : W2.cell? ⟨M, 12, none⟩ = some (.bool h) := blk_cell HS2.out.bM rfl
        go_wp2_with fail
        refine (HR.out _).mono ?_
        rintro r W3 ⟨rfl, hb⟩
        have HS3 := Hid.in (HS2.out.step hb)
        clear hb HS2
        clear x0 x1 x2 x3 x4 x5 x6 x7 x8 x9 x10 x11 x12
        have z0 : W3.cell? ⟨w.heap.size, 0, none⟩ = some (.int .i64 0) := blk_cell HS3.out.bR rfl
        have y0 : W3.frozen? ⟨w.heap.size, 0, none⟩ = false := blk_free HS3.out.bR
        have z1 : W3.cell? ⟨w.heap.size, 1, none⟩ = some (.int .i64 0) := blk_cell HS3.out.bR rfl
        have y1 : W3.frozen? ⟨w.heap.size, 1, none⟩ = false := blk_free HS3.out.bR
        have z2 : W3.cell? ⟨w.heap.size, 2, none⟩ = some (.int .i64 0) := blk_cell HS3.out.bR rfl
        have y2 : W3.frozen? ⟨w.heap.size, 2, none⟩ = false := blk_free HS3.out.bR
        have z3 : W3.cell? ⟨w.heap.size, 3, none⟩ = some (.int .i64 0) := blk_cell HS3.out.bR rfl
        have y3 : W3.frozen? ⟨w.heap.size, 3, none⟩ = false := blk_free HS3.out.bR
        have z4 : W3.cell? ⟨w.heap.size, 4, none⟩ = some (.int .i64 0) := blk_cell HS3.out.bR rfl
        have y4 : W3.frozen? ⟨w.heap.size, 4, none⟩ = false := blk_free HS3.out.bR
        have z5 : W3.cell? ⟨w.heap.size, 5, none⟩ = some (.int .i64 0) := blk_cell HS3.out.bR rfl
        have y5 : W3.frozen? ⟨w.heap.size, 5, none⟩ = false := blk_free HS3.out.bR
        have z6 : W3.cell? ⟨w.heap.size, 6, none⟩ = some (.int .i64 0) := blk_cell HS3.out.bR rfl
        have y6 : W3.frozen? ⟨w.heap.size, 6, none⟩ = false := blk_free HS3.out.bR
        have z7 : W3.cell? ⟨w.heap.size, 7, none⟩ = some (.int .u32 0) := blk_cell HS3.out.bR rfl
        have y7 : W3.frozen? ⟨w.heap.size, 7, none⟩ = false := blk_free HS3.out.bR
        have z8 : W3.cell? ⟨w.heap.size, 8, none⟩ = some (.int .u32 0) := blk_cell HS3.out.bR rfl
        have y8 : W3.frozen? ⟨w.heap.size, 8, none⟩ = false := blk_free HS3.out.bR
        have z9 : W3.cell? ⟨w.heap.size, 9, none⟩ = some (.int .u32 0) := blk_cell HS3.out.bR rfl
        have y9 : W3.frozen? ⟨w.heap.size, 9, none⟩ = false := blk_free HS3.out.bR
        have z10 : W3.cell? ⟨w.heap.size, 10, none⟩ = some (.int .u32 0) := blk_cell HS3.out.bR rfl
        have y10 : W3.frozen? ⟨w.heap.size, 10, none⟩ = false := blk_free HS3.out.bR
        have z11 : W3.cell? ⟨w.heap.size, 11, none⟩ = some (.int .u32 0) := blk_cell HS3.out.bR rfl
        have y11 : W3.frozen? ⟨w.heap.size, 11, none⟩ = false := blk_free HS3.out.bR
        have z12 : W3.cell? ⟨w.heap.size, 12, none⟩ = some (.bool false) := blk_cell HS3.out.bR rfl
        have y12 : W3.frozen? ⟨w.heap.size, 12, none⟩ = false := blk_free HS3.out.bR
        have x0 : W3.cell? ⟨M, 0, none⟩ = some (.int .i64 k) := blk_cell HS3.out.bM rfl
        have x1 : W3.cell? ⟨M, 1, none⟩ = some (.int .i64 c) := blk_cell HS3.out.bM rfl
        have x2 : W3.cell? ⟨M, 2, none⟩ = some (.int .i64 l) := blk_cell HS3.out.bM rfl
        have x3 : W3.cell? ⟨M, 3, none⟩ = some (.int .i64 t) := blk_cell HS3.out.bM rfl
        have x4 : W3.cell? ⟨M, 4, none⟩ = some (.int .i64 o) := blk_cell HS3.out.bM rfl
        have x5 : W3.cell? ⟨M, 5, none⟩ = some (.int .i64 e) := blk_cell HS3.out.bM rfl
        have x6 : W3.cell? ⟨M, 6, none⟩ = some (.int .i64 w_) := blk_cell HS3.out.bM rfl
        have x7 : W3.cell? ⟨M, 7, none⟩ = some (.int .u32 v) := blk_cell HS3.out.bM rfl
        have x8 : W3.cell? ⟨M, 8, none⟩ = some (.int .u32 d0) := blk_cell HS3.out.bM rfl
        have x9 : W3.cell? ⟨M, 9, none⟩ = some (.int .u32 d1) := blk_cell HS3.out.bM rfl
        have x10 : W3.cell? ⟨M, 10, none⟩ = some (.int .u32 d2) := blk_cell HS3.out.bM rfl
        have x11 : W3.cell? ⟨M, 11, none⟩ = some (.int .u32 d3) := blk_cell HS3.out.bM rfl
        have x12 : W3.cell? ⟨M, 12, none⟩ = some (.bool h) := blk_cell HS3.out.bM rfl
        go_wp2
        refine bodyPost_ret (v := .tuple #[.agg #[.int .i64 k, .int .i64 c, .int .i64 l, .int .i64 t, .int .i64 o, .int .i64 e, .int .i64 w_, .int .u32 v, .int .u32 d0, .int .u32 d1, .int .u32 d2, .int .u32 d3, .bool h], .int .i64 0, .int .i64 0]) ?_ rfl ⟨_, by rw [HEE.out]; rfl, ?_⟩
        · rw [results_cell3 rfl]
          go_simp
          all_goals rfl
        · exact (((((((((((((HS3.out.be.setCell (p := ⟨w.heap.size, 0, none⟩) (Nat.le_refl _) _).setCell (p := ⟨w.heap.size, 1, none⟩) (Nat.le_refl _) _).setCell (p := ⟨w.heap.size, 2, none⟩) (Nat.le_refl _) _).setCell (p := ⟨w.heap.size, 3, none⟩) (Nat.le_refl _) _).setCell (p := ⟨w.heap.size, 4, none⟩) (Nat.le_refl _) _).setCell (p := ⟨w.heap.size, 5, none⟩) (Nat.le_refl _) _).setCell (p := ⟨w.heap.size, 6, none⟩) (Nat.le_refl _) _).setCell (p := ⟨w.heap.size, 7, none⟩) (Nat.le_refl _) _).setCell (p := ⟨w.heap.size, 8, none⟩) (Nat.le_refl _) _).setCell (p := ⟨w.heap.size, 9, none⟩) (Nat.le_refl _) _).setCell (p := ⟨w.heap.size, 10, none⟩) (Nat.le_refl _) _).setCell (p := ⟨w.heap.size, 11, none⟩) (Nat.le_refl _) _).setCell (p := ⟨w.heap.size, 12, none⟩) (Nat.le_refl _) _)
    · have hee := HGO.out
      rw [if_pos h0] at hee
      have HEE := Hid.in hee
      have ub : ¬ ((u : Int) = 0) := by omega
      have ubb : ((u : Int) == 0) = false := by simpa using ub
      have ubc : ((u : Int) != 0) = true := by simpa using ub
      clear hee h0
      go_upto_region 25 with fail
      have HS : Hid ((fun W => W.heap[w.heap.size + 1]? = some (.cells #[.slice ao bs.length cap, .int .i64 (p : Nat), .int .i64 (u : Nat), .int .i64 (plc u p : Nat)] 65 (0, 0)) ∧ W.heap[w.heap.size]? = some (.cells #[.int .i64 0, .int .i64 0, .int .i64 0, .int .i64 0, .int .i64 0, .int .i64 0, .int .i64 0, .int .u32 0, .int .u32 0, .int .u32 0, .int .u32 0, .int .u32 0, .bool false] 28 (0, 0)) ∧ Below w.heap.size w W) W2.drew) := Hid.in ⟨((Below.refl W2.heap.size W2).drew.block _ (blk_lt HS2.out.qd.blk)).trans HS2.out.qd.blk, ((Below.refl W2.heap.size W2).drew.block _ (blk_lt HS2.out.bR)).trans HS2.out.bR, HS2.out.be.drew⟩
      have HFQ : Hid (∀ W, (fun W => W.heap[w.heap.size + 1]? = some (.cells #[.slice ao bs.length cap, .int .i64 (p : Nat), .int .i64 (u : Nat), .int .i64 (plc u p : Nat)] 65 (0, 0)) ∧ W.heap[w.heap.size]? = some (.cells #[.int .i64 0, .int .i64 0, .int .i64 0, .int .i64 0, .int .i64 0, .int .i64 0, .int .i64 0, .int .u32 0, .int .u32 0, .int .u32 0, .int .u32 0, .int .u32 0, .bool false] 28 (0, 0)) ∧ Below w.heap.size w W) W → W.cell? ⟨w.heap.size + 1, 3, none⟩ = some (.int .i64 (plc u p : Nat))) := Hid.in (fun W h => blk_cell h.1 rfl)
      clear HS2
      refine wp_region_but (fun W => W.heap[w.heap.size + 1]? = some (.cells #[.slice ao bs.length cap, .int .i64 (p : Nat), .int .i64 (u : Nat), .int .i64 (plc u p : Nat)] 65 (0, 0)) ∧ W.heap[w.heap.size]? = some (.cells #[.int .i64 0, .int .i64 0, .int .i64 0, .int .i64 0, .int .i64 0, .int .i64 0, .int .i64 0, .int .u32 0, .int .u32 0, .int .u32 0, .int .u32 0, .int .u32 0, .bool false] 28 (0, 0)) ∧ Below w.heap.size w W) 8 (by kernel_rfl) ?_
      generalize hX : W2.drew = W3 at *
      clear hX
      refine wpBut_take (i := 0) (v := ?_) rfl (by kernel_rfl) (by kernel_rfl) (by exact fun _ _ _ h => h) HS.out (Or.inl ⟨by rfl, ?_⟩) ?_
      case refine_2 => (intro W _; go_simp; try with_reducible rfl)
      simp only [Act.put, List.setIfInBounds_toArray, List.set_cons_zero, List.set_cons_succ]
      refine wpBut_take (i := 1) (v := ?_) rfl (by kernel_rfl) (by kernel_rfl) (by exact fun _ _ _ h => h) HS.out (Or.inl ⟨by rfl, ?_⟩) ?_
      case refine_2 => (intro W _; go_simp; try with_reducible rfl)
      simp only [Act.put, List.setIfInBounds_toArray, List.set_cons_zero, List.set_cons_succ]
      refine wpBut_take (i := 2) (v := ?_) rfl (by kernel_rfl) (by kernel_rfl) (by exact fun _ _ _ h => h) HS.out (Or.inl ⟨by rfl, ?_⟩) ?_
      case refine_2 => (intro W _; go_simp; try with_reducible rfl)
      simp only [Act.put, List.setIfInBounds_toArray, List.set_cons_zero, List.set_cons_succ]
      refine wpBut_take (i := 3) (v := ?_) rfl (by kernel_rfl) (by kernel_rfl) (by exact fun _ _ _ h => h) HS.out (Or.inl ⟨by rfl, ?_⟩) ?_
      case refine_2 => (intro W _; go_simp; try with_reducible rfl)
      simp only [Act.put, List.setIfInBounds_toArray, List.set_cons_zero, List.set_cons_succ]
      refine wpBut_take (i := 4) (v := ?_) rfl (by kernel_rfl) (by kernel_rfl) (by exact fun _ _ _ h => h) HS.out (Or.inl ⟨by rfl, ?_⟩) ?_
      case refine_2 => (intro W _; go_simp; try with_reducible rfl)
      simp only [Act.put, List.setIfInBounds_toArray, List.set_cons_zero, List.set_cons_succ]
      refine wpBut_take (i := 5) (v := ?_) rfl (by kernel_rfl) (by kernel_rfl) (by exact fun _ _ _ h => h) HS.out (Or.inl ⟨by rfl, ?_⟩) ?_
      case refine_2 => (intro W hSw; have s0 := HFQ.out W hSw; go_simp; try with_reducible rfl)
      simp only [Act.put, List.setIfInBounds_toArray, List.set_cons_zero, List.set_cons_succ]
      have z0 : W3.cell? ⟨w.heap.size, 0, none⟩ = some (.int .i64 0) := blk_cell HS.out.2.1 rfl
      have y0 : W3.frozen? ⟨w.heap.size, 0, none⟩ = false := blk_free HS.out.2.1
      have z1 : W3.cell? ⟨w.heap.size, 1, none⟩ = some (.int .i64 0) := blk_cell HS.out.2.1 rfl
      have y1 : W3.frozen? ⟨w.heap.size, 1, none⟩ = false := blk_free HS.out.2.1
      have z2 : W3.cell? ⟨w.heap.size, 2, none⟩ = some (.int .i64 0) := blk_cell HS.out.2.1 rfl
      have y2 : W3.frozen? ⟨w.heap.size, 2, none⟩ = false := blk_free HS.out.2.1
      have z3 : W3.cell? ⟨w.heap.size, 3, none⟩ = some (.int .i64 0) := blk_cell HS.out.2.1 rfl
      have y3 : W3.frozen? ⟨w.heap.size, 3, none⟩ = false := blk_free HS.out.2.1
      have z4 : W3.cell? ⟨w.heap.size, 4, none⟩ = some (.int .i64 0) := blk_cell HS.out.2.1 rfl
      have y4 : W3.frozen? ⟨w.heap.size, 4, none⟩ = false := blk_free HS.out.2.1
      have z5 : W3.cell? ⟨w.heap.size, 5, none⟩ = some (.int .i64 0) := blk_cell HS.out.2.1 rfl
      have y5 : W3.frozen? ⟨w.heap.size, 5, none⟩ = false := blk_free HS.out.2.1
      have z6 : W3.cell? ⟨w.heap.size, 6, none⟩ = some (.int .i64 0) := blk_cell HS.out.2.1 rfl
      have y6 : W3.frozen? ⟨w.heap.size, 6, none⟩ = false := blk_free HS.out.2.1
      have z7 : W3.cell? ⟨w.heap.size, 7, none⟩ = some (.int .u32 0) := blk_cell HS.out.2.1 rfl
      have y7 : W3.frozen? ⟨w.heap.size, 7, none⟩ = false := blk_free HS.out.2.1
      have z8 : W3.cell? ⟨w.heap.size, 8, none⟩ = some (.int .u32 0) := blk_cell HS.out.2.1 rfl
      have y8 : W3.frozen? ⟨w.heap.size, 8, none⟩ = false := blk_free HS.out.2.1
      have z9 : W3.cell? ⟨w.heap.size, 9, none⟩ = some (.int .u32 0) := blk_cell HS.out.2.1 rfl
      have y9 : W3.frozen? ⟨w.heap.size, 9, none⟩ = false := blk_free HS.out.2.1
      have z10 : W3.cell? ⟨w.heap.size, 10, none⟩ = some (.int .u32 0) := blk_cell HS.out.2.1 rfl
      have y10 : W3.frozen? ⟨w.heap.size, 10, none⟩ = false := blk_free HS.out.2.1
      have z11 : W3.cell? ⟨w.heap.size, 11, none⟩ = some (.int .u32 0) := blk_cell HS.out.2.1 rfl
      have y11 : W3.frozen? ⟨w.heap.size, 11, none⟩ = false := blk_free HS.out.2.1
      have z12 : W3.cell? ⟨w.heap.size, 12, none⟩ = some (.bool false) := blk_cell HS.out.2.1 rfl
      have y12 : W3.frozen? ⟨w.heap.size, 12, none⟩ = false := blk_free HS.out.2.1
      have HSn : Hid ((fun W => W.heap[w.heap.size + 1]? = some (.cells #[.slice ao bs.length cap, .int .i64 (p : Nat), .int .i64 (u : Nat), .int .i64 (plc u p : Nat)] 65 (0, 0)) ∧ W.heap[w.heap.size]? = some (.cells #[.int .i64 0, .int .i64 0, .int .i64 0, .int .i64 0, .int .i64 0, .int .i64 0, .int .i64 0, .int .u32 0, .int .u32 0, .int .u32 0, .int .u32 0, .int .u32 0, .bool false] 28 (0, 0)) ∧ Below w.heap.size w W) (((((((((((((W3.setCell ⟨w.heap.size, 0, none⟩ (.int .i64 0)).setCell ⟨w.heap.size, 1, none⟩ (.int .i64 0)).setCell ⟨w.heap.size, 2, none⟩ (.int .i64 0)).setCell ⟨w.heap.size, 3, none⟩ (.int .i64 0)).setCell ⟨w.heap.size, 4, none⟩ (.int .i64 0)).setCell ⟨w.heap.size, 5, none⟩ (.int .i64 0)).setCell ⟨w.heap.size, 6, none⟩ (.int .i64 0)).setCell ⟨w.heap.size, 7, none⟩ (.int .u32 0)).setCell ⟨w.heap.size, 8, none⟩ (.int .u32 0)).setCell ⟨w.heap.size, 9, none⟩ (.int .u32 0)).setCell ⟨w.heap.size, 10, none⟩ (.int .u32 0)).setCell ⟨w.heap.size, 11, none⟩ (.int .u32 0)).setCell ⟨w.heap.size, 12, none⟩ (.bool false))) := Hid.in (by
        have h13 := set13 (v0 := .int .i64 0) (v1 := .int .i64 0) (v2 := .int .i64 0) (v3 := .int .i64 0) (v4 := .int .i64 0) (v5 := .int .i64 0) (v6 := .int .i64 0) (v7 := .int .u32 0) (v8 := .int .u32 0) (v9 := .int .u32 0) (v10 := .int .u32 0) (v11 := .int .u32 0) (v12 := .bool false) HS.out.2.1
        exact ⟨(h13.2.1 _ (by omega)).trans HS.out.1, h13.1, h13.2.2 _ _ (Nat.le_refl _) HS.out.2.2⟩)
      refine wpBut_one (i := 6) rfl (by kernel_rfl) (fun K HK => ?_)
      go_simp
      generalize hX : (((((((((((((W3.setCell ⟨w.heap.size, 0, none⟩ (.int .i64 0)).setCell ⟨w.heap.size, 1, none⟩ (.int .i64 0)).setCell ⟨w.heap.size, 2, none⟩ (.int .i64 0)).setCell ⟨w.heap.size, 3, none⟩ (.int .i64 0)).setCell ⟨w.heap.size, 4, none⟩ (.int .i64 0)).setCell ⟨w.heap.size, 5, none⟩ (.int .i64 0)).setCell ⟨w.heap.size, 6, none⟩ (.int .i64 0)).setCell ⟨w.heap.size, 7, none⟩ (.int .u32 0)).setCell ⟨w.heap.size, 8, none⟩ (.int .u32 0)).setCell ⟨w.heap.size, 9, none⟩ (.int .u32 0)).setCell ⟨w.heap.size, 10, none⟩ (.int .u32 0)).setCell ⟨w.heap.size, 11, none⟩ (.int .u32 0)).setCell ⟨w.heap.size, 12, none⟩ (.bool false)) = W4 at *
      clear hX HS z0 z1 z2 z3 z4 z5 z6 z7 z8 z9 z10 z11 z12 y0 y1 y2 y3 y4 y5 y6 y7 y8 y9 y10 y11 y12
      have HS := HSn
      clear HSn
      refine HK.out _ _ (fun _ => HS.out) ?_
      clear HK K
      try simp only [Act.put, List.setIfInBounds_toArray, List.set_cons_zero, List.set_cons_succ]
      refine wpBut_take (i := 7) (v := ?_) rfl (by kernel_rfl) (by kernel_rfl) (by exact fun _ _ _ h => h) HS.out (Or.inl ⟨by rfl, ?_⟩) ?_
      case refine_2 => (intro W _; go_simp; try with_reducible rfl)
      simp only [Act.put, List.setIfInBounds_toArray, List.set_cons_zero, List.set_cons_succ]
      refine wpBut_one (i := 8) rfl (by kernel_rfl) (fun K HK => ?_)
      go_simp
      refine HK.out _ _ (fun h => absurd rfl h) ?_
      clear HK K
      try simp only [Act.put, List.setIfInBounds_toArray, List.set_cons_zero, List.set_cons_succ]
      refine wpBut_done (by kernel_rfl) ?_ _
      have z0 : W4.cell? ⟨w.heap.size, 0, none⟩ = some (.int .i64 0) := blk_cell HS.out.2.1 rfl
      have z1 : W4.cell? ⟨w.heap.size, 1, none⟩ = some (.int .i64 0) := blk_cell HS.out.2.1 rfl
      have z2 : W4.cell? ⟨w.heap.size, 2, none⟩ = some (.int .i64 0) := blk_cell HS.out.2.1 rfl
      have z3 : W4.cell? ⟨w.heap.size, 3, none⟩ = some (.int .i64 0) := blk_cell HS.out.2.1 rfl
      have z4 : W4.cell? ⟨w.heap.size, 4, none⟩ = some (.int .i64 0) := blk_cell HS.out.2.1 rfl
      have z5 : W4.cell? ⟨w.heap.size, 5, none⟩ = some (.int .i64 0) := blk_cell HS.out.2.1 rfl
      have z6 : W4.cell? ⟨w.heap.size, 6, none⟩ = some (.int .i64 0) := blk_cell HS.out.2.1 rfl
      have z7 : W4.cell? ⟨w.heap.size, 7, none⟩ = some (.int .u32 0) := blk_cell HS.out.2.1 rfl
      have z8 : W4.cell? ⟨w.heap.size, 8, none⟩ = some (.int .u32 0) := blk_cell HS.out.2.1 rfl
      have z9 : W4.cell? ⟨w.heap.size, 9, none⟩ = some (.int .u32 0) := blk_cell HS.out.2.1 rfl
      have z10 : W4.cell? ⟨w.heap.size, 10, none⟩ = some (.int .u32 0) := blk_cell HS.out.2.1 rfl
      have z11 : W4.cell? ⟨w.heap.size, 11, none⟩ = some (.int .u32 0) := blk_cell HS.out.2.1 rfl
      have z12 : W4.cell? ⟨w.heap.size, 12, none⟩ = some (.bool false) := blk_cell HS.out.2.1 rfl
      go_wp2
      refine bodyPost_ret (v := .tuple #[.agg #[.int .i64 0, .int .i64 0, .int .i64 0, .int .i64 0, .int .i64 0, .int .i64 0, .int .i64 0, .int .u32 0, .int .u32 0, .int .u32 0, .int .u32 0, .int .u32 0, .bool false], .int .i64 (u : Nat), .int .i64 (plc u p : Nat)]) ?_ rfl ⟨⟨_, by rw [HEE.out]; rfl⟩, HS.out.2.2⟩
      rw [results_cell3 rfl]
      go_simp
      all_goals rfl

end Go.Proofs.YtgepfbaojogccaaDoor

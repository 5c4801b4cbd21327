/- DERIVED of the program: TsoCommutes returns true. Own work. -/
import Derived.Test.YtncgjclehplfeabDoorTsK
namespace Go.Proofs.YtncgjclehplfeabDoor
open Go.RowKit Go.Extern.Stop Go.Stop Go.Extern

theorem badS_cons {s s' : TS} {e : Ev} {r : List Ev} {i : Nat} (h : refP s.1 s.2 e = 0) (hs : stepS s e = s') : badS s (e :: r) i = badS s' r (i + 1) := by
  subst hs
  exact badS_yes h
theorem runS_cons {s s' : TS} {e : Ev} {r : List Ev} (hs : stepS s e = s') : runS s (e :: r) = runS s' r := by
  subst hs
  rfl
/-- Both orders. -/
theorem com_run (x y : Nat) (u v : Int) (hx : x < 4) (hy : y < 4) :
    badS (ts0 2 4) [⟨2, 0, x, u, 0, false⟩, ⟨2, 1, y, v, 0, false⟩, ⟨3, 0, x, u, 0, false⟩, ⟨3, 1, y, v, 0, false⟩] 0 = none ∧ (runS (ts0 2 4) [⟨2, 0, x, u, 0, false⟩, ⟨2, 1, y, v, 0, false⟩, ⟨3, 0, x, u, 0, false⟩, ⟨3, 1, y, v, 0, false⟩]).2 = (([0, 0, 0, 0] : List Int).set x u).set y v := by
  have a1 : refP (ts0 2 4).1 (ts0 2 4).2 ⟨2, 0, x, u, 0, false⟩ = 0 := ref_store (ts0 2 4) 0 x u 0 false (by simp) (by simpa using hx)
  have b1 : stepS (ts0 2 4) ⟨2, 0, x, u, 0, false⟩ = ([[((x : Int), u)], []], [0, 0, 0, 0]) := (step_store (s := ts0 2 4) (c := 0) (by simp) (by simpa using hx)).trans rfl
  have a2 : refP [[((x : Int), u)], []] [0, 0, 0, 0] ⟨2, 1, y, v, 0, false⟩ = 0 := ref_store ([[((x : Int), u)], []], [0, 0, 0, 0]) 1 y v 0 false (by simp) (by simpa using hy)
  have b2 : stepS ([[((x : Int), u)], []], [0, 0, 0, 0]) ⟨2, 1, y, v, 0, false⟩ = ([[((x : Int), u)], [((y : Int), v)]], [0, 0, 0, 0]) := (step_store (s := ([[((x : Int), u)], []], [0, 0, 0, 0])) (c := 1) (by simp) (by simpa using hy)).trans rfl
  have a3 : refP [[((x : Int), u)], [((y : Int), v)]] [0, 0, 0, 0] ⟨3, 0, x, u, 0, false⟩ = 0 := (ref_commit ([[((x : Int), u)], [((y : Int), v)]], [0, 0, 0, 0]) 0 x u 0 false (by simp) (by simpa using hx) _ [] rfl).trans (if_pos rfl)
  have b3 : stepS ([[((x : Int), u)], [((y : Int), v)]], [0, 0, 0, 0]) ⟨3, 0, x, u, 0, false⟩ = ([[], [((y : Int), v)]], ([0, 0, 0, 0] : List Int).set x u) := (step_commit (s := ([[((x : Int), u)], [((y : Int), v)]], [0, 0, 0, 0])) (c := 0) (by simp) (by simpa using hx) [] rfl).trans rfl
  have a4 : refP (([[], [((y : Int), v)]], ([0, 0, 0, 0] : List Int).set x u) : TS).1 (([[], [((y : Int), v)]], ([0, 0, 0, 0] : List Int).set x u) : TS).2 ⟨3, 1, y, v, 0, false⟩ = 0 := (ref_commit ([[], [((y : Int), v)]], ([0, 0, 0, 0] : List Int).set x u) 1 y v 0 false (by simp) (by simpa using hy) _ [] rfl).trans (if_pos rfl)
  have b4 : stepS ([[], [((y : Int), v)]], ([0, 0, 0, 0] : List Int).set x u) ⟨3, 1, y, v, 0, false⟩ = ([[], []], (([0, 0, 0, 0] : List Int).set x u).set y v) := (step_commit (s := ([[], [((y : Int), v)]], ([0, 0, 0, 0] : List Int).set x u)) (c := 1) (by simp) (by simpa using hy) [] rfl).trans rfl
  exact ⟨(badS_cons a1 b1).trans ((badS_cons a2 b2).trans ((badS_cons a3 b3).trans (badS_cons a4 b4))), congrArg Prod.snd ((runS_cons b1).trans ((runS_cons b2).trans ((runS_cons b3).trans (runS_cons b4))))⟩
theorem com_run2 (x y : Nat) (u v : Int) (hx : x < 4) (hy : y < 4) :
    badS (ts0 2 4) [⟨2, 0, x, u, 0, false⟩, ⟨2, 1, y, v, 0, false⟩, ⟨3, 1, y, v, 0, false⟩, ⟨3, 0, x, u, 0, false⟩] 0 = none ∧ (runS (ts0 2 4) [⟨2, 0, x, u, 0, false⟩, ⟨2, 1, y, v, 0, false⟩, ⟨3, 1, y, v, 0, false⟩, ⟨3, 0, x, u, 0, false⟩]).2 = (([0, 0, 0, 0] : List Int).set y v).set x u := by
  have a1 : refP (ts0 2 4).1 (ts0 2 4).2 ⟨2, 0, x, u, 0, false⟩ = 0 := ref_store (ts0 2 4) 0 x u 0 false (by simp) (by simpa using hx)
  have b1 : stepS (ts0 2 4) ⟨2, 0, x, u, 0, false⟩ = ([[((x : Int), u)], []], [0, 0, 0, 0]) := (step_store (s := ts0 2 4) (c := 0) (by simp) (by simpa using hx)).trans rfl
  have a2 : refP [[((x : Int), u)], []] [0, 0, 0, 0] ⟨2, 1, y, v, 0, false⟩ = 0 := ref_store ([[((x : Int), u)], []], [0, 0, 0, 0]) 1 y v 0 false (by simp) (by simpa using hy)
  have b2 : stepS ([[((x : Int), u)], []], [0, 0, 0, 0]) ⟨2, 1, y, v, 0, false⟩ = ([[((x : Int), u)], [((y : Int), v)]], [0, 0, 0, 0]) := (step_store (s := ([[((x : Int), u)], []], [0, 0, 0, 0])) (c := 1) (by simp) (by simpa using hy)).trans rfl
  have a3 : refP [[((x : Int), u)], [((y : Int), v)]] [0, 0, 0, 0] ⟨3, 1, y, v, 0, false⟩ = 0 := (ref_commit ([[((x : Int), u)], [((y : Int), v)]], [0, 0, 0, 0]) 1 y v 0 false (by simp) (by simpa using hy) _ [] rfl).trans (if_pos rfl)
  have b3 : stepS ([[((x : Int), u)], [((y : Int), v)]], [0, 0, 0, 0]) ⟨3, 1, y, v, 0, false⟩ = ([[((x : Int), u)], []], ([0, 0, 0, 0] : List Int).set y v) := (step_commit (s := ([[((x : Int), u)], [((y : Int), v)]], [0, 0, 0, 0])) (c := 1) (by simp) (by simpa using hy) [] rfl).trans rfl
  have a4 : refP (([[((x : Int), u)], []], ([0, 0, 0, 0] : List Int).set y v) : TS).1 (([[((x : Int), u)], []], ([0, 0, 0, 0] : List Int).set y v) : TS).2 ⟨3, 0, x, u, 0, false⟩ = 0 := (ref_commit ([[((x : Int), u)], []], ([0, 0, 0, 0] : List Int).set y v) 0 x u 0 false (by simp) (by simpa using hx) _ [] rfl).trans (if_pos rfl)
  have b4 : stepS ([[((x : Int), u)], []], ([0, 0, 0, 0] : List Int).set y v) ⟨3, 0, x, u, 0, false⟩ = ([[], []], (([0, 0, 0, 0] : List Int).set y v).set x u) := (step_commit (s := ([[((x : Int), u)], []], ([0, 0, 0, 0] : List Int).set y v)) (c := 0) (by simp) (by simpa using hx) [] rfl).trans rfl
  exact ⟨(badS_cons a1 b1).trans ((badS_cons a2 b2).trans ((badS_cons a3 b3).trans (badS_cons a4 b4))), congrArg Prod.snd ((runS_cons b1).trans ((runS_cons b2).trans ((runS_cons b3).trans (runS_cons b4))))⟩
theorem step_concatA5 {w : World} {ops : Array Oper} {o : Oper} {a : Act} {K : Act → World → Prop} {Q : Exit → Act → World → Prop} {E : Prop} (hgd : o.guard = none) (ts te : TypeId) (m by_ : Nat) (z : Value) (s x : Operand)
    (ho : o.op = .call { callee := .builtin .append, args := #[s, x], argTypes := #[ts, ts] }) (hts : Tryd.prog.underlying ts = some (.slice te)) (hte : (Tryd.prog.info? te).map (fun i => (i.zero, i.size, i.bytes)) = some (some z, m, by_)) (hzs : z.cells.size = m) (hm0 : 0 < m) (hby : by_ ≤ 1000) (B : Nat)
    (ao ao2 : Option Addr) (n cap k cap2 : Nat) (rs new : List (List Value)) (hs : a.eval s = .slice ao n cap) (hown : OwnA te m w B ao n cap rs) (hx : a.eval x = .slice ao2 k cap2) (hk : k = new.length) (hL : Rows' m w ao2 cap2 new)
    (hB : B ≤ w.heap.size) (hlen : n + k ≤ 1000000)
    (h : ∀ ao' cap' w', Hid (OwnA te m w' B ao' (n + k) cap' (rs ++ new)) → Hid (w.grownBy w' (oblk ao)) → Hid (cap < n + k → Below w.heap.size w w') → K (a.put o.dst (.slice ao' (n + k) cap')) w') :
    if Region.wanted o (yielded ops a.tmps) = true then Oper.wp Tryd.prog o a w K Q else E := by
  have hw : Region.wanted o (yielded ops a.tmps) = true := by simp [Region.wanted, hgd]
  rw [if_pos hw]
  exact wp_concatA5 ts te m by_ z s x ho hts hte hzs hm0 hby B ao ao2 n cap k cap2 rs new hs hown hx hk hL hB hlen fun ao' cap' w' h1 h2 _ _ h5 => h ao' cap' w' h1 h2 h5
theorem com_same (x y : Nat) (u v : Int) (hx : x < 4) (hy : y < 4) : decide ((([0, 0, 0, 0] : List Int).set x u).set y v = (([0, 0, 0, 0] : List Int).set y v).set x u) = decide (x ≠ y ∨ u = v) := by
  refine decide_eq_decide.2 ⟨fun h => ?_, fun h => ?_⟩
  · by_cases hxy : x = y
    · subst hxy
      right
      have := congrArg (fun l => l[x]?) h
      simp only [List.set_set] at this
      rw [List.getElem?_set_self (by simpa using hx), List.getElem?_set_self (by simpa using hx)] at this
      exact (Option.some.inj this).symm
    · exact .inl hxy
  · by_cases hxy : x = y
    · subst hxy
      rcases h with h | rfl
      · exact absurd rfl h
      · rfl
    · exact List.set_comm u v hxy

set_option maxHeartbeats 6400000 in
set_option maxRecDepth 20000 in
theorem tsoCommutes_any (w : World) (sa : Nat → Addr) (hE : Env10 w sa) (a b u v : Int) : Calls Tryd.prog 5 #[.int .i64 a, .int .i64 b, .int .u32 u, .int .u32 v] w fun r w' => r = .returned (.bool true) ∧ Below w.heap.size w w' := by
  have HE := Hid.in hE
  clear hE
  have hw0 := wI_le a 0 3 (by omega)
  have hw1 := wI_le b 0 3 (by omega)
  obtain ⟨x, hx⟩ : ∃ m : Nat, wI a 0 3 = (m : Int) := ⟨(wI a 0 3).toNat, by omega⟩
  obtain ⟨y, hy⟩ : ∃ m : Nat, wI b 0 3 = (m : Int) := ⟨(wI b 0 3).toNat, by omega⟩
  have hx4 : x < 4 := by omega
  have hy4 : y < 4 := by omega
  have HX := Hid.in hx
  have HY := Hid.in hy
  obtain ⟨r1, r2⟩ := com_run x y u v hx4 hy4
  obtain ⟨r3, r4⟩ := com_run2 x y u v hx4 hy4
  have R1 := Hid.in r1
  have R2 := Hid.in r2
  have R3 := Hid.in r3
  have R4 := Hid.in r4
  clear hw0 hw1 hx hy r1 r2 r3 r4
  go_enter Tryd.func5, Tryd.ntmps5
  go_wp2_with fail
  refine (within_i a 0 3 w (by omega) (by omega) (by omega)).mono ?_
  rw [HX.out]
  rintro r w' ⟨rfl, rfl⟩
  go_wp2_with fail
  refine (within_i b 0 3 _ (by omega) (by omega) (by omega)).mono ?_
  rw [HY.out]
  rintro r w ⟨rfl, rfl⟩
  go_wp2_with fail
  refine (ev_c _ _ _ _ _).mono ?_
  rintro r w1 ⟨rfl, hb1⟩
  go_wp2_with fail
  refine (ev_c _ _ _ _ _).mono ?_
  rintro r w2 ⟨rfl, hb2⟩
  have HB2 := Hid.in (bstep hb1 (Nat.le_refl _) hb2)
  clear hb1 hb2
  go_wp2_with fail
  generalize hwb : w2.alloc _ = wb
  have hrl : RowE wb (some ⟨w2.heap.size, 0, none⟩) 2 [⟨2, 0, x, u, 0, false⟩, ⟨2, 1, y, v, 0, false⟩] := by rw [← hwb]; exact RowE.lits w2 [⟨2, 0, x, u, 0, false⟩, ⟨2, 1, y, v, 0, false⟩] _ rfl
  have HRL := Hid.in hrl
  have HBL : Hid (Below w.heap.size w wb) := Hid.in (by rw [← hwb]; exact bstep HB2.out (Nat.le_refl _) (below_alloc _ _))
  clear hwb hrl HB2
  generalize w2.heap.size = lb at HRL ⊢
  refine (ev_c _ _ _ _ _).mono ?_
  rintro r w3 ⟨rfl, hb3⟩
  go_wp2_with fail
  refine (ev_c _ _ _ _ _).mono ?_
  rintro r w4 ⟨rfl, hb4⟩
  have HB4 := Hid.in (bstep hb3 (Nat.le_refl _) hb4)
  clear hb3 hb4
  go_upto_region 4 with fail
  generalize hwx : (w4.alloc _).alloc _ = wx
  have HBX : Hid (Below wb.heap.size wb wx) := Hid.in (by rw [← hwx]; exact bstep (bstep HB4.out (Nat.le_refl _) (below_alloc _ _)) (Nat.le_refl _) (below_alloc _ _))
  have pcs : ∀ i z, #[Value.int .i64 3, .int .i64 0, .int .i64 (x : Int), .int .u32 u, .int .u32 0, .bool false][i]? = some z → wx.cell? ⟨w4.heap.size, i, none⟩ = some z := fun i z hi => by
    rw [← hwx]
    have h0 : (w4.alloc (.cells #[.int .i64 3, .int .i64 0, .int .i64 (x : Int), .int .u32 u, .int .u32 0, .bool false] 31)).cell? ⟨w4.heap.size, i, none⟩ = some z := blk_cell (heap_alloc_new _ _) hi
    exact ((below_alloc (w4.alloc (.cells #[.int .i64 3, .int .i64 0, .int .i64 (x : Int), .int .u32 u, .int .u32 0, .bool false] 31)) _).cell (p := ⟨w4.heap.size, i, none⟩) (lt_cell h0)).trans h0
  have qcs : ∀ i z, #[Value.int .i64 3, .int .i64 1, .int .i64 (y : Int), .int .u32 v, .int .u32 0, .bool false][i]? = some z → wx.cell? ⟨w4.heap.size + 1, i, none⟩ = some z := fun i z hi => by
    rw [← hwx]
    have h0 := blk_cell (heap_alloc_new (w4.alloc (.cells #[.int .i64 3, .int .i64 0, .int .i64 (x : Int), .int .u32 u, .int .u32 0, .bool false] 31)) (.cells #[.int .i64 3, .int .i64 1, .int .i64 (y : Int), .int .u32 v, .int .u32 0, .bool false] 31)) hi
    rw [show (w4.alloc (.cells #[.int .i64 3, .int .i64 0, .int .i64 (x : Int), .int .u32 u, .int .u32 0, .bool false] 31)).heap.size = w4.heap.size + 1 by simp] at h0
    exact h0
  generalize w4.heap.size = pb at pcs qcs ⊢
  clear hwx HB4
  have p0 : wx.cell? ⟨pb, 0, none⟩ = some (.int .i64 3) := pcs 0 _ rfl
  have p1 : wx.cell? ⟨pb, 1, none⟩ = some (.int .i64 0) := pcs 1 _ rfl
  have p2 : wx.cell? ⟨pb, 2, none⟩ = some (.int .i64 (x : Int)) := pcs 2 _ rfl
  have p3 : wx.cell? ⟨pb, 3, none⟩ = some (.int .u32 u) := pcs 3 _ rfl
  have p4 : wx.cell? ⟨pb, 4, none⟩ = some (.int .u32 0) := pcs 4 _ rfl
  have p5 : wx.cell? ⟨pb, 5, none⟩ = some (.bool false) := pcs 5 _ rfl
  have q0 : wx.cell? ⟨pb + 1, 0, none⟩ = some (.int .i64 3) := qcs 0 _ rfl
  have q1 : wx.cell? ⟨pb + 1, 1, none⟩ = some (.int .i64 1) := qcs 1 _ rfl
  have q2 : wx.cell? ⟨pb + 1, 2, none⟩ = some (.int .i64 (y : Int)) := qcs 2 _ rfl
  have q3 : wx.cell? ⟨pb + 1, 3, none⟩ = some (.int .u32 v) := qcs 3 _ rfl
  have q4 : wx.cell? ⟨pb + 1, 4, none⟩ = some (.int .u32 0) := qcs 4 _ rfl
  have q5 : wx.cell? ⟨pb + 1, 5, none⟩ = some (.bool false) := qcs 5 _ rfl
  clear pcs qcs
  have HFg : Hid (∀ W, Below wx.heap.size wx W → (W.cell? ⟨pb, 0, none⟩ = some (.int .i64 3) ∧ W.cell? ⟨pb, 1, none⟩ = some (.int .i64 0) ∧ W.cell? ⟨pb, 2, none⟩ = some (.int .i64 (x : Int)) ∧ W.cell? ⟨pb, 3, none⟩ = some (.int .u32 u) ∧ W.cell? ⟨pb, 4, none⟩ = some (.int .u32 0) ∧ W.cell? ⟨pb, 5, none⟩ = some (.bool false)) ∧ W.cell? ⟨pb + 1, 0, none⟩ = some (.int .i64 3) ∧ W.cell? ⟨pb + 1, 1, none⟩ = some (.int .i64 1) ∧ W.cell? ⟨pb + 1, 2, none⟩ = some (.int .i64 (y : Int)) ∧ W.cell? ⟨pb + 1, 3, none⟩ = some (.int .u32 v) ∧ W.cell? ⟨pb + 1, 4, none⟩ = some (.int .u32 0) ∧ W.cell? ⟨pb + 1, 5, none⟩ = some (.bool false)) := Hid.in (fun W hW => ⟨⟨(hW.cell (p := ⟨pb, 0, none⟩) (lt_cell p0)).trans p0, (hW.cell (p := ⟨pb, 1, none⟩) (lt_cell p1)).trans p1, (hW.cell (p := ⟨pb, 2, none⟩) (lt_cell p2)).trans p2, (hW.cell (p := ⟨pb, 3, none⟩) (lt_cell p3)).trans p3, (hW.cell (p := ⟨pb, 4, none⟩) (lt_cell p4)).trans p4, (hW.cell (p := ⟨pb, 5, none⟩) (lt_cell p5)).trans p5⟩, (hW.cell (p := ⟨pb + 1, 0, none⟩) (lt_cell q0)).trans q0, (hW.cell (p := ⟨pb + 1, 1, none⟩) (lt_cell q1)).trans q1, (hW.cell (p := ⟨pb + 1, 2, none⟩) (lt_cell q2)).trans q2, (hW.cell (p := ⟨pb + 1, 3, none⟩) (lt_cell q3)).trans q3, (hW.cell (p := ⟨pb + 1, 4, none⟩) (lt_cell q4)).trans q4, (hW.cell (p := ⟨pb + 1, 5, none⟩) (lt_cell q5)).trans q5⟩)
  clear p0 q0 p1 q1 p2 q2 p3 q3 p4 q4 p5 q5
  go_cut [14, 15] (fun a b wd => ∃ m mc, a = .slice m 4 mc ∧ b = .nilIface ∧ RowU wd m mc ((([0, 0, 0, 0] : List Int).set x u).set y v) ∧ Below wx.heap.size wx wd)
  case first =>
    refine wp_region_but (fun W => Below wx.heap.size wx W) 12 (by kernel_rfl) ?_
    have HS : Hid (Below wx.heap.size wx wx.drew) := Hid.in (Below.refl _ _).drew
    refine wpBut_take (i := 1) (v := ?_) rfl (by kernel_rfl) (by kernel_rfl) (by exact fun _ _ _ h => h) HS.out (Or.inl ⟨by rfl, ?_⟩) ?_
    case refine_2 => (intro W _; go_simp; try with_reducible rfl)
    simp only [Act.put, List.setIfInBounds_toArray, List.set_cons_zero, List.set_cons_succ]
    refine wpBut_take (i := 3) (v := ?_) rfl (by kernel_rfl) (by kernel_rfl) (by exact fun _ _ _ h => h) HS.out (Or.inl ⟨by rfl, ?_⟩) ?_
    case refine_2 => (intro W hSw; obtain ⟨⟨c0, c1, c2, c3, c4, c5⟩, d0, d1, d2, d3, d4, d5⟩ := HFg.out W hSw; go_simp; try with_reducible rfl)
    simp only [Act.put, List.setIfInBounds_toArray, List.set_cons_zero, List.set_cons_succ]
    refine wpBut_take (i := 4) (v := ?_) rfl (by kernel_rfl) (by kernel_rfl) (by exact fun _ _ _ h => h) HS.out (Or.inl ⟨by rfl, ?_⟩) ?_
    case refine_2 => (intro W hSw; obtain ⟨⟨c0, c1, c2, c3, c4, c5⟩, d0, d1, d2, d3, d4, d5⟩ := HFg.out W hSw; go_simp; try with_reducible rfl)
    simp only [Act.put, List.setIfInBounds_toArray, List.set_cons_zero, List.set_cons_succ]
    refine wpBut_two (i := 0) (j := 5) rfl rfl (by kernel_rfl) (fun K HK => ?_) (fun K HK => ?_)
    · go_simp
      refine HK.out _ _ (fun _ => bstep HS.out (Nat.le_refl _) (below_alloc _ _)) ?_
      clear HK K
      have HBA : Hid (Below wx.heap.size wx (wx.drew.alloc (.cells #[] 31))) := Hid.in (bstep HS.out (Nat.le_refl _) (below_alloc _ _))
      have hoa : OwnA 31 6 (wx.drew.alloc (.cells #[] 31)) wx.heap.size (some ⟨wx.drew.heap.size, 0, none⟩) 0 0 [] := OwnA.empty _ _ _ _ HS.out.size
      have esz : wx.drew.heap.size = wx.heap.size := by simp
      rw [esz] at hoa
      clear esz
      have HOA := Hid.in hoa
      clear hoa
      refine wpBut_two (i := 2) (j := 5) rfl rfl (by kernel_rfl) (fun K HK => ?_) (fun K HK => ?_)
      · refine step_concatA5 rfl 41 31 6 40 _ (.tmp 36) (.tmp 37) rfl Tryd.underlying41 Tryd.infoEv rfl (by decide) (by decide) wx.heap.size (some ⟨wx.heap.size, 0, none⟩) (some ⟨lb, 0, none⟩) 0 0 2 2 [] (([⟨2, 0, x, u, 0, false⟩, ⟨2, 1, y, v, 0, false⟩] : List Ev).map Ev.cs) rfl HOA.out rfl rfl (HRL.out.step (bstep HBX.out (Nat.le_refl _) HBA.out)) HBA.out.size (by decide) ?_
        intro aog capg wg HOg HGg hbl
        have hbb := hbl.out (by decide)
        refine HK.out _ _ (fun _ => bstep HBA.out (Nat.le_refl _) hbb) ?_
        clear HK K
        try simp only [Act.put, List.setIfInBounds_toArray, List.set_cons_zero, List.set_cons_succ]
        have HBB : Hid (Below wx.heap.size wx wg) := Hid.in (bstep HBA.out (Nat.le_refl _) hbb)
        have HKB : Hid (∀ k, oblk aog = some k → wx.heap.size ≤ k) := Hid.in (fun k hk => (HOg.out.blk k hk).1)
        clear hbb hbl HGg
        refine wpBut_one (i := 5) rfl (by kernel_rfl) (fun K HK => ?_)
        go_simp
        refine HK.out _ _ (fun _ => bstep HBB.out (Nat.le_refl _) (below_alloc _ _)) ?_
        clear HK K
        have HBC : Hid (Below wx.heap.size wx (wg.alloc (.cells #[.int .i64 3, .int .i64 0, .int .i64 (x : Int), .int .u32 u, .int .u32 0, .bool false, .int .i64 3, .int .i64 1, .int .i64 (y : Int), .int .u32 v, .int .u32 0, .bool false] 31))) := Hid.in (bstep HBB.out (Nat.le_refl _) (below_alloc _ _))
        have hrc : RowE (wg.alloc (.cells #[.int .i64 3, .int .i64 0, .int .i64 (x : Int), .int .u32 u, .int .u32 0, .bool false, .int .i64 3, .int .i64 1, .int .i64 (y : Int), .int .u32 v, .int .u32 0, .bool false] 31)) (some ⟨wg.heap.size, 0, none⟩) 2 [⟨3, 0, x, u, 0, false⟩, ⟨3, 1, y, v, 0, false⟩] := RowE.lits wg [⟨3, 0, x, u, 0, false⟩, ⟨3, 1, y, v, 0, false⟩] _ rfl
        have HRC := Hid.in hrc
        clear hrc
        have HOC := Hid.in (HOg.out.step (below_alloc wg (.cells #[.int .i64 3, .int .i64 0, .int .i64 (x : Int), .int .u32 u, .int .u32 0, .bool false, .int .i64 3, .int .i64 1, .int .i64 (y : Int), .int .u32 v, .int .u32 0, .bool false] 31)))
        refine wpBut_one (i := 6) rfl (by kernel_rfl) (fun K HK => ?_)
        refine step_concatA5 rfl 41 31 6 40 _ (.tmp 38) (.tmp 41) rfl Tryd.underlying41 Tryd.infoEv rfl (by decide) (by decide) wx.heap.size aog (some ⟨wg.heap.size, 0, none⟩) 2 capg 2 2 (([⟨2, 0, x, u, 0, false⟩, ⟨2, 1, y, v, 0, false⟩] : List Ev).map Ev.cs) (([⟨3, 0, x, u, 0, false⟩, ⟨3, 1, y, v, 0, false⟩] : List Ev).map Ev.cs) rfl HOC.out rfl rfl HRC.out HBC.out.size (by decide) ?_
        intro aogc capgc wgc HOgc HGgc _
        have HBgc : Hid (Below wx.heap.size wx wgc) := Hid.in (HBC.out.grown HGgc.out HBC.out.size HKB.out)
        refine HK.out _ _ (fun _ => HBgc.out) ?_
        clear HK K
        try simp only [Act.put, List.setIfInBounds_toArray, List.set_cons_zero, List.set_cons_succ]
        have HRgc : Hid (RowE wgc aogc capgc [⟨2, 0, x, u, 0, false⟩, ⟨2, 1, y, v, 0, false⟩, ⟨3, 0, x, u, 0, false⟩, ⟨3, 1, y, v, 0, false⟩]) := Hid.in (Rows'.evs HOgc.out)
        refine wpBut_one (i := 7) rfl (by kernel_rfl) (fun K HK => ?_)
        go_simp
        refine (treplay_c _ sa (HE.out.below (bstep HBL.out (Nat.le_refl _) (bstep HBX.out (Nat.le_refl _) HBgc.out))) 2 4 (by decide) (by decide) (by decide) (by decide) _ 4 _ [⟨2, 0, x, u, 0, false⟩, ⟨2, 1, y, v, 0, false⟩, ⟨3, 0, x, u, 0, false⟩, ⟨3, 1, y, v, 0, false⟩] rfl (by decide) HRgc.out none R1.out _ R2.out).mono ?_
        rintro r wr ⟨⟨mg, mcg, rfl, hO⟩, hb6⟩
        have HMg := Hid.in (Rows'.us hO)
        have HBwrs : Hid (Below wx.heap.size wx wr) := Hid.in (bstep HBgc.out (Nat.le_refl _) hb6)
        refine HK.out _ _ (fun _ => HBwrs.out) ?_
        clear HK K HS
        try simp only [Act.put, List.setIfInBounds_toArray, List.set_cons_zero, List.set_cons_succ]
        have HS : Hid (Below wx.heap.size wx wr) := HBwrs
        clear hb6 hO HRgc HOgc HGgc HBgc
        refine wpBut_take (i := 8) (v := ?_) rfl (by kernel_rfl) (by kernel_rfl) (by exact fun _ _ _ h => h) HS.out (Or.inl ⟨by rfl, ?_⟩) ?_
        case refine_2 => (intro W _; go_simp; try with_reducible rfl)
        simp only [Act.put, List.setIfInBounds_toArray, List.set_cons_zero, List.set_cons_succ]
        refine wpBut_take (i := 9) (v := ?_) rfl (by kernel_rfl) (by kernel_rfl) (by exact fun _ _ _ h => h) HS.out (Or.inl ⟨by rfl, ?_⟩) ?_
        case refine_2 => (intro W _; go_simp; try with_reducible rfl)
        simp only [Act.put, List.setIfInBounds_toArray, List.set_cons_zero, List.set_cons_succ]
        refine wpBut_take (i := 10) (v := ?_) rfl (by kernel_rfl) (by kernel_rfl) (by exact fun _ _ _ h => h) HS.out (Or.inl ⟨by rfl, ?_⟩) ?_
        case refine_2 => (intro W _; go_simp; try with_reducible rfl)
        simp only [Act.put, List.setIfInBounds_toArray, List.set_cons_zero, List.set_cons_succ]
        refine wpBut_take (i := 11) (v := ?_) rfl (by kernel_rfl) (by kernel_rfl) (by exact fun _ _ _ h => h) HS.out (Or.inl ⟨by rfl, ?_⟩) ?_
        case refine_2 => (intro W _; go_simp; try with_reducible rfl)
        simp only [Act.put, List.setIfInBounds_toArray, List.set_cons_zero, List.set_cons_succ]
        refine wpBut_one (i := 12) rfl (by kernel_rfl) (fun K HK => ?_)
        go_simp
        refine HK.out _ _ (fun h => absurd rfl h) ?_
        clear HK K
        refine wpBut_done (by kernel_rfl) ?_ _
        go_wp2_with fail
        go_meet
        case rel => exact ⟨_, _, rfl, rfl, HMg.out, HBwrs.out⟩
      · go_simp
        refine HK.out _ _ (fun _ => bstep HBA.out (Nat.le_refl _) (below_alloc _ _)) ?_
        clear HK K
        have HBC : Hid (Below wx.heap.size wx ((wx.drew.alloc (.cells #[] 31)).alloc (.cells #[.int .i64 3, .int .i64 0, .int .i64 (x : Int), .int .u32 u, .int .u32 0, .bool false, .int .i64 3, .int .i64 1, .int .i64 (y : Int), .int .u32 v, .int .u32 0, .bool false] 31))) := Hid.in (bstep HBA.out (Nat.le_refl _) (below_alloc _ _))
        have hrc : RowE ((wx.drew.alloc (.cells #[] 31)).alloc (.cells #[.int .i64 3, .int .i64 0, .int .i64 (x : Int), .int .u32 u, .int .u32 0, .bool false, .int .i64 3, .int .i64 1, .int .i64 (y : Int), .int .u32 v, .int .u32 0, .bool false] 31)) (some ⟨(wx.drew.alloc (.cells #[] 31)).heap.size, 0, none⟩) 2 [⟨3, 0, x, u, 0, false⟩, ⟨3, 1, y, v, 0, false⟩] := RowE.lits (wx.drew.alloc (.cells #[] 31)) [⟨3, 0, x, u, 0, false⟩, ⟨3, 1, y, v, 0, false⟩] _ rfl
        have esz : (wx.drew.alloc (.cells #[] 31)).heap.size = wx.heap.size + 1 := by simp
        rw [esz] at hrc
        clear esz
        have HRC := Hid.in hrc
        clear hrc
        have HOC := Hid.in (HOA.out.step (below_alloc (wx.drew.alloc (.cells #[] 31)) (.cells #[.int .i64 3, .int .i64 0, .int .i64 (x : Int), .int .u32 u, .int .u32 0, .bool false, .int .i64 3, .int .i64 1, .int .i64 (y : Int), .int .u32 v, .int .u32 0, .bool false] 31)))
        refine wpBut_one (i := 2) rfl (by kernel_rfl) (fun K HK => ?_)
        refine step_concatA5 rfl 41 31 6 40 _ (.tmp 36) (.tmp 37) rfl Tryd.underlying41 Tryd.infoEv rfl (by decide) (by decide) wx.heap.size (some ⟨wx.heap.size, 0, none⟩) (some ⟨lb, 0, none⟩) 0 0 2 2 [] (([⟨2, 0, x, u, 0, false⟩, ⟨2, 1, y, v, 0, false⟩] : List Ev).map Ev.cs) rfl HOC.out rfl rfl (HRL.out.step (bstep HBX.out (Nat.le_refl _) HBC.out)) HBC.out.size (by decide) ?_
        intro aog capg wg HOg HGg hbl
        have hbb := hbl.out (by decide)
        refine HK.out _ _ (fun _ => bstep HBC.out (Nat.le_refl _) hbb) ?_
        clear HK K
        try simp only [Act.put, List.setIfInBounds_toArray, List.set_cons_zero, List.set_cons_succ]
        have HBB : Hid (Below wx.heap.size wx wg) := Hid.in (bstep HBC.out (Nat.le_refl _) hbb)
        have HRB := Hid.in (HRC.out.step hbb)
        have HKB : Hid (∀ k, oblk aog = some k → wx.heap.size ≤ k) := Hid.in (fun k hk => (HOg.out.blk k hk).1)
        clear hbb hbl HGg
        refine wpBut_one (i := 6) rfl (by kernel_rfl) (fun K HK => ?_)
        refine step_concatA5 rfl 41 31 6 40 _ (.tmp 38) (.tmp 41) rfl Tryd.underlying41 Tryd.infoEv rfl (by decide) (by decide) wx.heap.size aog (some ⟨wx.heap.size + 1, 0, none⟩) 2 capg 2 2 (([⟨2, 0, x, u, 0, false⟩, ⟨2, 1, y, v, 0, false⟩] : List Ev).map Ev.cs) (([⟨3, 0, x, u, 0, false⟩, ⟨3, 1, y, v, 0, false⟩] : List Ev).map Ev.cs) rfl HOg.out rfl rfl HRB.out HBB.out.size (by decide) ?_
        intro aogc capgc wgc HOgc HGgc _
        have HBgc : Hid (Below wx.heap.size wx wgc) := Hid.in (HBB.out.grown HGgc.out HBB.out.size HKB.out)
        refine HK.out _ _ (fun _ => HBgc.out) ?_
        clear HK K
        try simp only [Act.put, List.setIfInBounds_toArray, List.set_cons_zero, List.set_cons_succ]
        have HRgc : Hid (RowE wgc aogc capgc [⟨2, 0, x, u, 0, false⟩, ⟨2, 1, y, v, 0, false⟩, ⟨3, 0, x, u, 0, false⟩, ⟨3, 1, y, v, 0, false⟩]) := Hid.in (Rows'.evs HOgc.out)
        refine wpBut_one (i := 7) rfl (by kernel_rfl) (fun K HK => ?_)
        go_simp
        refine (treplay_c _ sa (HE.out.below (bstep HBL.out (Nat.le_refl _) (bstep HBX.out (Nat.le_refl _) HBgc.out))) 2 4 (by decide) (by decide) (by decide) (by decide) _ 4 _ [⟨2, 0, x, u, 0, false⟩, ⟨2, 1, y, v, 0, false⟩, ⟨3, 0, x, u, 0, false⟩, ⟨3, 1, y, v, 0, false⟩] rfl (by decide) HRgc.out none R1.out _ R2.out).mono ?_
        rintro r wr ⟨⟨mg, mcg, rfl, hO⟩, hb6⟩
        have HMg := Hid.in (Rows'.us hO)
        have HBwrs : Hid (Below wx.heap.size wx wr) := Hid.in (bstep HBgc.out (Nat.le_refl _) hb6)
        refine HK.out _ _ (fun _ => HBwrs.out) ?_
        clear HK K HS
        try simp only [Act.put, List.setIfInBounds_toArray, List.set_cons_zero, List.set_cons_succ]
        have HS : Hid (Below wx.heap.size wx wr) := HBwrs
        clear hb6 hO HRgc HOgc HGgc HBgc
        refine wpBut_take (i := 8) (v := ?_) rfl (by kernel_rfl) (by kernel_rfl) (by exact fun _ _ _ h => h) HS.out (Or.inl ⟨by rfl, ?_⟩) ?_
        case refine_2 => (intro W _; go_simp; try with_reducible rfl)
        simp only [Act.put, List.setIfInBounds_toArray, List.set_cons_zero, List.set_cons_succ]
        refine wpBut_take (i := 9) (v := ?_) rfl (by kernel_rfl) (by kernel_rfl) (by exact fun _ _ _ h => h) HS.out (Or.inl ⟨by rfl, ?_⟩) ?_
        case refine_2 => (intro W _; go_simp; try with_reducible rfl)
        simp only [Act.put, List.setIfInBounds_toArray, List.set_cons_zero, List.set_cons_succ]
        refine wpBut_take (i := 10) (v := ?_) rfl (by kernel_rfl) (by kernel_rfl) (by exact fun _ _ _ h => h) HS.out (Or.inl ⟨by rfl, ?_⟩) ?_
        case refine_2 => (intro W _; go_simp; try with_reducible rfl)
        simp only [Act.put, List.setIfInBounds_toArray, List.set_cons_zero, List.set_cons_succ]
        refine wpBut_take (i := 11) (v := ?_) rfl (by kernel_rfl) (by kernel_rfl) (by exact fun _ _ _ h => h) HS.out (Or.inl ⟨by rfl, ?_⟩) ?_
        case refine_2 => (intro W _; go_simp; try with_reducible rfl)
        simp only [Act.put, List.setIfInBounds_toArray, List.set_cons_zero, List.set_cons_succ]
        refine wpBut_one (i := 12) rfl (by kernel_rfl) (fun K HK => ?_)
        go_simp
        refine HK.out _ _ (fun h => absurd rfl h) ?_
        clear HK K
        refine wpBut_done (by kernel_rfl) ?_ _
        go_wp2_with fail
        go_meet
        case rel => exact ⟨_, _, rfl, rfl, HMg.out, HBwrs.out⟩
    · go_simp
      refine HK.out _ _ (fun _ => bstep HS.out (Nat.le_refl _) (below_alloc _ _)) ?_
      clear HK K
      have HBC : Hid (Below wx.heap.size wx (wx.drew.alloc (.cells #[.int .i64 3, .int .i64 0, .int .i64 (x : Int), .int .u32 u, .int .u32 0, .bool false, .int .i64 3, .int .i64 1, .int .i64 (y : Int), .int .u32 v, .int .u32 0, .bool false] 31))) := Hid.in (bstep HS.out (Nat.le_refl _) (below_alloc _ _))
      have hrc : RowE (wx.drew.alloc (.cells #[.int .i64 3, .int .i64 0, .int .i64 (x : Int), .int .u32 u, .int .u32 0, .bool false, .int .i64 3, .int .i64 1, .int .i64 (y : Int), .int .u32 v, .int .u32 0, .bool false] 31)) (some ⟨wx.drew.heap.size, 0, none⟩) 2 [⟨3, 0, x, u, 0, false⟩, ⟨3, 1, y, v, 0, false⟩] := RowE.lits wx.drew [⟨3, 0, x, u, 0, false⟩, ⟨3, 1, y, v, 0, false⟩] _ rfl
      have esz : wx.drew.heap.size = wx.heap.size := by simp
      rw [esz] at hrc
      clear esz
      have HRC := Hid.in hrc
      clear hrc
      refine wpBut_one (i := 0) rfl (by kernel_rfl) (fun K HK => ?_)
      go_simp
      refine HK.out _ _ (fun _ => bstep HBC.out (Nat.le_refl _) (below_alloc _ _)) ?_
      clear HK K
      have HBA : Hid (Below wx.heap.size wx ((wx.drew.alloc (.cells #[.int .i64 3, .int .i64 0, .int .i64 (x : Int), .int .u32 u, .int .u32 0, .bool false, .int .i64 3, .int .i64 1, .int .i64 (y : Int), .int .u32 v, .int .u32 0, .bool false] 31)).alloc (.cells #[] 31))) := Hid.in (bstep HBC.out (Nat.le_refl _) (below_alloc _ _))
      have hoa : OwnA 31 6 ((wx.drew.alloc (.cells #[.int .i64 3, .int .i64 0, .int .i64 (x : Int), .int .u32 u, .int .u32 0, .bool false, .int .i64 3, .int .i64 1, .int .i64 (y : Int), .int .u32 v, .int .u32 0, .bool false] 31)).alloc (.cells #[] 31)) wx.heap.size (some ⟨(wx.drew.alloc (.cells #[.int .i64 3, .int .i64 0, .int .i64 (x : Int), .int .u32 u, .int .u32 0, .bool false, .int .i64 3, .int .i64 1, .int .i64 (y : Int), .int .u32 v, .int .u32 0, .bool false] 31)).heap.size, 0, none⟩) 0 0 [] := OwnA.empty _ _ _ _ HBC.out.size
      have esz : (wx.drew.alloc (.cells #[.int .i64 3, .int .i64 0, .int .i64 (x : Int), .int .u32 u, .int .u32 0, .bool false, .int .i64 3, .int .i64 1, .int .i64 (y : Int), .int .u32 v, .int .u32 0, .bool false] 31)).heap.size = wx.heap.size + 1 := by simp
      rw [esz] at hoa
      clear esz
      have HOA := Hid.in hoa
      clear hoa
      have HRA : Hid (RowE ((wx.drew.alloc (.cells #[.int .i64 3, .int .i64 0, .int .i64 (x : Int), .int .u32 u, .int .u32 0, .bool false, .int .i64 3, .int .i64 1, .int .i64 (y : Int), .int .u32 v, .int .u32 0, .bool false] 31)).alloc (.cells #[] 31)) (some ⟨wx.heap.size, 0, none⟩) 2 [⟨3, 0, x, u, 0, false⟩, ⟨3, 1, y, v, 0, false⟩]) := Hid.in (HRC.out.step (below_alloc _ _))
      refine wpBut_one (i := 2) rfl (by kernel_rfl) (fun K HK => ?_)
      refine step_concatA5 rfl 41 31 6 40 _ (.tmp 36) (.tmp 37) rfl Tryd.underlying41 Tryd.infoEv rfl (by decide) (by decide) wx.heap.size (some ⟨wx.heap.size + 1, 0, none⟩) (some ⟨lb, 0, none⟩) 0 0 2 2 [] (([⟨2, 0, x, u, 0, false⟩, ⟨2, 1, y, v, 0, false⟩] : List Ev).map Ev.cs) rfl HOA.out rfl rfl (HRL.out.step (bstep HBX.out (Nat.le_refl _) HBA.out)) HBA.out.size (by decide) ?_
      intro aog capg wg HOg HGg hbl
      have hbb := hbl.out (by decide)
      refine HK.out _ _ (fun _ => bstep HBA.out (Nat.le_refl _) hbb) ?_
      clear HK K
      try simp only [Act.put, List.setIfInBounds_toArray, List.set_cons_zero, List.set_cons_succ]
      have HBB : Hid (Below wx.heap.size wx wg) := Hid.in (bstep HBA.out (Nat.le_refl _) hbb)
      have HRB := Hid.in (HRA.out.step hbb)
      have HKB : Hid (∀ k, oblk aog = some k → wx.heap.size ≤ k) := Hid.in (fun k hk => (HOg.out.blk k hk).1)
      clear hbb hbl HGg
      refine wpBut_one (i := 6) rfl (by kernel_rfl) (fun K HK => ?_)
      refine step_concatA5 rfl 41 31 6 40 _ (.tmp 38) (.tmp 41) rfl Tryd.underlying41 Tryd.infoEv rfl (by decide) (by decide) wx.heap.size aog (some ⟨wx.heap.size, 0, none⟩) 2 capg 2 2 (([⟨2, 0, x, u, 0, false⟩, ⟨2, 1, y, v, 0, false⟩] : List Ev).map Ev.cs) (([⟨3, 0, x, u, 0, false⟩, ⟨3, 1, y, v, 0, false⟩] : List Ev).map Ev.cs) rfl HOg.out rfl rfl HRB.out HBB.out.size (by decide) ?_
      intro aogc capgc wgc HOgc HGgc _
      have HBgc : Hid (Below wx.heap.size wx wgc) := Hid.in (HBB.out.grown HGgc.out HBB.out.size HKB.out)
      refine HK.out _ _ (fun _ => HBgc.out) ?_
      clear HK K
      try simp only [Act.put, List.setIfInBounds_toArray, List.set_cons_zero, List.set_cons_succ]
      have HRgc : Hid (RowE wgc aogc capgc [⟨2, 0, x, u, 0, false⟩, ⟨2, 1, y, v, 0, false⟩, ⟨3, 0, x, u, 0, false⟩, ⟨3, 1, y, v, 0, false⟩]) := Hid.in (Rows'.evs HOgc.out)
      refine wpBut_one (i := 7) rfl (by kernel_rfl) (fun K HK => ?_)
      go_simp
      refine (treplay_c _ sa (HE.out.below (bstep HBL.out (Nat.le_refl _) (bstep HBX.out (Nat.le_refl _) HBgc.out))) 2 4 (by decide) (by decide) (by decide) (by decide) _ 4 _ [⟨2, 0, x, u, 0, false⟩, ⟨2, 1, y, v, 0, false⟩, ⟨3, 0, x, u, 0, false⟩, ⟨3, 1, y, v, 0, false⟩] rfl (by decide) HRgc.out none R1.out _ R2.out).mono ?_
      rintro r wr ⟨⟨mg, mcg, rfl, hO⟩, hb6⟩
      have HMg := Hid.in (Rows'.us hO)
      have HBwrs : Hid (Below wx.heap.size wx wr) := Hid.in (bstep HBgc.out (Nat.le_refl _) hb6)
      refine HK.out _ _ (fun _ => HBwrs.out) ?_
      clear HK K HS
      try simp only [Act.put, List.setIfInBounds_toArray, List.set_cons_zero, List.set_cons_succ]
      have HS : Hid (Below wx.heap.size wx wr) := HBwrs
      clear hb6 hO HRgc HOgc HGgc HBgc
      refine wpBut_take (i := 8) (v := ?_) rfl (by kernel_rfl) (by kernel_rfl) (by exact fun _ _ _ h => h) HS.out (Or.inl ⟨by rfl, ?_⟩) ?_
      case refine_2 => (intro W _; go_simp; try with_reducible rfl)
      simp only [Act.put, List.setIfInBounds_toArray, List.set_cons_zero, List.set_cons_succ]
      refine wpBut_take (i := 9) (v := ?_) rfl (by kernel_rfl) (by kernel_rfl) (by exact fun _ _ _ h => h) HS.out (Or.inl ⟨by rfl, ?_⟩) ?_
      case refine_2 => (intro W _; go_simp; try with_reducible rfl)
      simp only [Act.put, List.setIfInBounds_toArray, List.set_cons_zero, List.set_cons_succ]
      refine wpBut_take (i := 10) (v := ?_) rfl (by kernel_rfl) (by kernel_rfl) (by exact fun _ _ _ h => h) HS.out (Or.inl ⟨by rfl, ?_⟩) ?_
      case refine_2 => (intro W _; go_simp; try with_reducible rfl)
      simp only [Act.put, List.setIfInBounds_toArray, List.set_cons_zero, List.set_cons_succ]
      refine wpBut_take (i := 11) (v := ?_) rfl (by kernel_rfl) (by kernel_rfl) (by exact fun _ _ _ h => h) HS.out (Or.inl ⟨by rfl, ?_⟩) ?_
      case refine_2 => (intro W _; go_simp; try with_reducible rfl)
      simp only [Act.put, List.setIfInBounds_toArray, List.set_cons_zero, List.set_cons_succ]
      refine wpBut_one (i := 12) rfl (by kernel_rfl) (fun K HK => ?_)
      go_simp
      refine HK.out _ _ (fun h => absurd rfl h) ?_
      clear HK K
      refine wpBut_done (by kernel_rfl) ?_ _
      go_wp2_with fail
      go_meet
      case rel => exact ⟨_, _, rfl, rfl, HMg.out, HBwrs.out⟩
  case rest =>
    obtain ⟨m1, mc1, rfl, rfl, hM, hb⟩ := hcut
    rename World => wy
    have HM1 := Hid.in hM
    have HBY : Hid (Below wb.heap.size wb wy) := Hid.in (bstep HBX.out (Nat.le_refl _) hb)
    obtain ⟨⟨p0, p1, p2, p3, p4, p5⟩, q0, q1, q2, q3, q4, q5⟩ := HFg.out wy hb
    clear hM hb HFg HBX
    go_upto_region 5 with fail
    have HFh : Hid (∀ W, Below wy.heap.size wy W → (W.cell? ⟨pb, 0, none⟩ = some (.int .i64 3) ∧ W.cell? ⟨pb, 1, none⟩ = some (.int .i64 0) ∧ W.cell? ⟨pb, 2, none⟩ = some (.int .i64 (x : Int)) ∧ W.cell? ⟨pb, 3, none⟩ = some (.int .u32 u) ∧ W.cell? ⟨pb, 4, none⟩ = some (.int .u32 0) ∧ W.cell? ⟨pb, 5, none⟩ = some (.bool false)) ∧ W.cell? ⟨pb + 1, 0, none⟩ = some (.int .i64 3) ∧ W.cell? ⟨pb + 1, 1, none⟩ = some (.int .i64 1) ∧ W.cell? ⟨pb + 1, 2, none⟩ = some (.int .i64 (y : Int)) ∧ W.cell? ⟨pb + 1, 3, none⟩ = some (.int .u32 v) ∧ W.cell? ⟨pb + 1, 4, none⟩ = some (.int .u32 0) ∧ W.cell? ⟨pb + 1, 5, none⟩ = some (.bool false)) := Hid.in (fun W hW => ⟨⟨(hW.cell (p := ⟨pb, 0, none⟩) (lt_cell p0)).trans p0, (hW.cell (p := ⟨pb, 1, none⟩) (lt_cell p1)).trans p1, (hW.cell (p := ⟨pb, 2, none⟩) (lt_cell p2)).trans p2, (hW.cell (p := ⟨pb, 3, none⟩) (lt_cell p3)).trans p3, (hW.cell (p := ⟨pb, 4, none⟩) (lt_cell p4)).trans p4, (hW.cell (p := ⟨pb, 5, none⟩) (lt_cell p5)).trans p5⟩, (hW.cell (p := ⟨pb + 1, 0, none⟩) (lt_cell q0)).trans q0, (hW.cell (p := ⟨pb + 1, 1, none⟩) (lt_cell q1)).trans q1, (hW.cell (p := ⟨pb + 1, 2, none⟩) (lt_cell q2)).trans q2, (hW.cell (p := ⟨pb + 1, 3, none⟩) (lt_cell q3)).trans q3, (hW.cell (p := ⟨pb + 1, 4, none⟩) (lt_cell q4)).trans q4, (hW.cell (p := ⟨pb + 1, 5, none⟩) (lt_cell q5)).trans q5⟩)
    clear p0 q0 p1 q1 p2 q2 p3 q3 p4 q4 p5 q5
    go_cut [16, 17] (fun a b wd => ∃ m mc, a = .slice m 4 mc ∧ b = .nilIface ∧ RowU wd m mc ((([0, 0, 0, 0] : List Int).set y v).set x u) ∧ Below wy.heap.size wy wd)
    case first =>
      refine wp_region_but (fun W => Below wy.heap.size wy W) 12 (by kernel_rfl) ?_
      have HS : Hid (Below wy.heap.size wy wy.drew) := Hid.in (Below.refl _ _).drew
      refine wpBut_take (i := 1) (v := ?_) rfl (by kernel_rfl) (by kernel_rfl) (by exact fun _ _ _ h => h) HS.out (Or.inl ⟨by rfl, ?_⟩) ?_
      case refine_2 => (intro W _; go_simp; try with_reducible rfl)
      simp only [Act.put, List.setIfInBounds_toArray, List.set_cons_zero, List.set_cons_succ]
      refine wpBut_take (i := 3) (v := ?_) rfl (by kernel_rfl) (by kernel_rfl) (by exact fun _ _ _ h => h) HS.out (Or.inl ⟨by rfl, ?_⟩) ?_
      case refine_2 => (intro W hSw; obtain ⟨⟨c0, c1, c2, c3, c4, c5⟩, d0, d1, d2, d3, d4, d5⟩ := HFh.out W hSw; go_simp; try with_reducible rfl)
      simp only [Act.put, List.setIfInBounds_toArray, List.set_cons_zero, List.set_cons_succ]
      refine wpBut_take (i := 4) (v := ?_) rfl (by kernel_rfl) (by kernel_rfl) (by exact fun _ _ _ h => h) HS.out (Or.inl ⟨by rfl, ?_⟩) ?_
      case refine_2 => (intro W hSw; obtain ⟨⟨c0, c1, c2, c3, c4, c5⟩, d0, d1, d2, d3, d4, d5⟩ := HFh.out W hSw; go_simp; try with_reducible rfl)
      simp only [Act.put, List.setIfInBounds_toArray, List.set_cons_zero, List.set_cons_succ]
      refine wpBut_two (i := 0) (j := 5) rfl rfl (by kernel_rfl) (fun K HK => ?_) (fun K HK => ?_)
      · go_simp
        refine HK.out _ _ (fun _ => bstep HS.out (Nat.le_refl _) (below_alloc _ _)) ?_
        clear HK K
        have HBA : Hid (Below wy.heap.size wy (wy.drew.alloc (.cells #[] 31))) := Hid.in (bstep HS.out (Nat.le_refl _) (below_alloc _ _))
        have hoa : OwnA 31 6 (wy.drew.alloc (.cells #[] 31)) wy.heap.size (some ⟨wy.drew.heap.size, 0, none⟩) 0 0 [] := OwnA.empty _ _ _ _ HS.out.size
        have esz : wy.drew.heap.size = wy.heap.size := by simp
        rw [esz] at hoa
        clear esz
        have HOA := Hid.in hoa
        clear hoa
        refine wpBut_two (i := 2) (j := 5) rfl rfl (by kernel_rfl) (fun K HK => ?_) (fun K HK => ?_)
        · refine step_concatA5 rfl 41 31 6 40 _ (.tmp 47) (.tmp 48) rfl Tryd.underlying41 Tryd.infoEv rfl (by decide) (by decide) wy.heap.size (some ⟨wy.heap.size, 0, none⟩) (some ⟨lb, 0, none⟩) 0 0 2 2 [] (([⟨2, 0, x, u, 0, false⟩, ⟨2, 1, y, v, 0, false⟩] : List Ev).map Ev.cs) rfl HOA.out rfl rfl (HRL.out.step (bstep HBY.out (Nat.le_refl _) HBA.out)) HBA.out.size (by decide) ?_
          intro aoh caph wh HOh HGh hbl
          have hbb := hbl.out (by decide)
          refine HK.out _ _ (fun _ => bstep HBA.out (Nat.le_refl _) hbb) ?_
          clear HK K
          try simp only [Act.put, List.setIfInBounds_toArray, List.set_cons_zero, List.set_cons_succ]
          have HBB : Hid (Below wy.heap.size wy wh) := Hid.in (bstep HBA.out (Nat.le_refl _) hbb)
          have HKB : Hid (∀ k, oblk aoh = some k → wy.heap.size ≤ k) := Hid.in (fun k hk => (HOh.out.blk k hk).1)
          clear hbb hbl HGh
          refine wpBut_one (i := 5) rfl (by kernel_rfl) (fun K HK => ?_)
          go_simp
          refine HK.out _ _ (fun _ => bstep HBB.out (Nat.le_refl _) (below_alloc _ _)) ?_
          clear HK K
          have HBC : Hid (Below wy.heap.size wy (wh.alloc (.cells #[.int .i64 3, .int .i64 1, .int .i64 (y : Int), .int .u32 v, .int .u32 0, .bool false, .int .i64 3, .int .i64 0, .int .i64 (x : Int), .int .u32 u, .int .u32 0, .bool false] 31))) := Hid.in (bstep HBB.out (Nat.le_refl _) (below_alloc _ _))
          have hrc : RowE (wh.alloc (.cells #[.int .i64 3, .int .i64 1, .int .i64 (y : Int), .int .u32 v, .int .u32 0, .bool false, .int .i64 3, .int .i64 0, .int .i64 (x : Int), .int .u32 u, .int .u32 0, .bool false] 31)) (some ⟨wh.heap.size, 0, none⟩) 2 [⟨3, 1, y, v, 0, false⟩, ⟨3, 0, x, u, 0, false⟩] := RowE.lits wh [⟨3, 1, y, v, 0, false⟩, ⟨3, 0, x, u, 0, false⟩] _ rfl
          have HRC := Hid.in hrc
          clear hrc
          have HOC := Hid.in (HOh.out.step (below_alloc wh (.cells #[.int .i64 3, .int .i64 1, .int .i64 (y : Int), .int .u32 v, .int .u32 0, .bool false, .int .i64 3, .int .i64 0, .int .i64 (x : Int), .int .u32 u, .int .u32 0, .bool false] 31)))
          refine wpBut_one (i := 6) rfl (by kernel_rfl) (fun K HK => ?_)
          refine step_concatA5 rfl 41 31 6 40 _ (.tmp 49) (.tmp 52) rfl Tryd.underlying41 Tryd.infoEv rfl (by decide) (by decide) wy.heap.size aoh (some ⟨wh.heap.size, 0, none⟩) 2 caph 2 2 (([⟨2, 0, x, u, 0, false⟩, ⟨2, 1, y, v, 0, false⟩] : List Ev).map Ev.cs) (([⟨3, 1, y, v, 0, false⟩, ⟨3, 0, x, u, 0, false⟩] : List Ev).map Ev.cs) rfl HOC.out rfl rfl HRC.out HBC.out.size (by decide) ?_
          intro aohc caphc whc HOhc HGhc _
          have HBhc : Hid (Below wy.heap.size wy whc) := Hid.in (HBC.out.grown HGhc.out HBC.out.size HKB.out)
          refine HK.out _ _ (fun _ => HBhc.out) ?_
          clear HK K
          try simp only [Act.put, List.setIfInBounds_toArray, List.set_cons_zero, List.set_cons_succ]
          have HRhc : Hid (RowE whc aohc caphc [⟨2, 0, x, u, 0, false⟩, ⟨2, 1, y, v, 0, false⟩, ⟨3, 1, y, v, 0, false⟩, ⟨3, 0, x, u, 0, false⟩]) := Hid.in (Rows'.evs HOhc.out)
          refine wpBut_one (i := 7) rfl (by kernel_rfl) (fun K HK => ?_)
          go_simp
          refine (treplay_c _ sa (HE.out.below (bstep HBL.out (Nat.le_refl _) (bstep HBY.out (Nat.le_refl _) HBhc.out))) 2 4 (by decide) (by decide) (by decide) (by decide) _ 4 _ [⟨2, 0, x, u, 0, false⟩, ⟨2, 1, y, v, 0, false⟩, ⟨3, 1, y, v, 0, false⟩, ⟨3, 0, x, u, 0, false⟩] rfl (by decide) HRhc.out none R3.out _ R4.out).mono ?_
          rintro r ws ⟨⟨mh, mch, rfl, hO⟩, hb6⟩
          have HMh := Hid.in (Rows'.us hO)
          have HBwss : Hid (Below wy.heap.size wy ws) := Hid.in (bstep HBhc.out (Nat.le_refl _) hb6)
          refine HK.out _ _ (fun _ => HBwss.out) ?_
          clear HK K HS
          try simp only [Act.put, List.setIfInBounds_toArray, List.set_cons_zero, List.set_cons_succ]
          have HS : Hid (Below wy.heap.size wy ws) := HBwss
          clear hb6 hO HRhc HOhc HGhc HBhc
          refine wpBut_take (i := 8) (v := ?_) rfl (by kernel_rfl) (by kernel_rfl) (by exact fun _ _ _ h => h) HS.out (Or.inl ⟨by rfl, ?_⟩) ?_
          case refine_2 => (intro W _; go_simp; try with_reducible rfl)
          simp only [Act.put, List.setIfInBounds_toArray, List.set_cons_zero, List.set_cons_succ]
          refine wpBut_take (i := 9) (v := ?_) rfl (by kernel_rfl) (by kernel_rfl) (by exact fun _ _ _ h => h) HS.out (Or.inl ⟨by rfl, ?_⟩) ?_
          case refine_2 => (intro W _; go_simp; try with_reducible rfl)
          simp only [Act.put, List.setIfInBounds_toArray, List.set_cons_zero, List.set_cons_succ]
          refine wpBut_take (i := 10) (v := ?_) rfl (by kernel_rfl) (by kernel_rfl) (by exact fun _ _ _ h => h) HS.out (Or.inl ⟨by rfl, ?_⟩) ?_
          case refine_2 => (intro W _; go_simp; try with_reducible rfl)
          simp only [Act.put, List.setIfInBounds_toArray, List.set_cons_zero, List.set_cons_succ]
          refine wpBut_take (i := 11) (v := ?_) rfl (by kernel_rfl) (by kernel_rfl) (by exact fun _ _ _ h => h) HS.out (Or.inl ⟨by rfl, ?_⟩) ?_
          case refine_2 => (intro W _; go_simp; try with_reducible rfl)
          simp only [Act.put, List.setIfInBounds_toArray, List.set_cons_zero, List.set_cons_succ]
          refine wpBut_one (i := 12) rfl (by kernel_rfl) (fun K HK => ?_)
          go_simp
          refine HK.out _ _ (fun h => absurd rfl h) ?_
          clear HK K
          refine wpBut_done (by kernel_rfl) ?_ _
          go_wp2_with fail
          go_meet
          case rel => exact ⟨_, _, rfl, rfl, HMh.out, HBwss.out⟩
        · go_simp
          refine HK.out _ _ (fun _ => bstep HBA.out (Nat.le_refl _) (below_alloc _ _)) ?_
          clear HK K
          have HBC : Hid (Below wy.heap.size wy ((wy.drew.alloc (.cells #[] 31)).alloc (.cells #[.int .i64 3, .int .i64 1, .int .i64 (y : Int), .int .u32 v, .int .u32 0, .bool false, .int .i64 3, .int .i64 0, .int .i64 (x : Int), .int .u32 u, .int .u32 0, .bool false] 31))) := Hid.in (bstep HBA.out (Nat.le_refl _) (below_alloc _ _))
          have hrc : RowE ((wy.drew.alloc (.cells #[] 31)).alloc (.cells #[.int .i64 3, .int .i64 1, .int .i64 (y : Int), .int .u32 v, .int .u32 0, .bool false, .int .i64 3, .int .i64 0, .int .i64 (x : Int), .int .u32 u, .int .u32 0, .bool false] 31)) (some ⟨(wy.drew.alloc (.cells #[] 31)).heap.size, 0, none⟩) 2 [⟨3, 1, y, v, 0, false⟩, ⟨3, 0, x, u, 0, false⟩] := RowE.lits (wy.drew.alloc (.cells #[] 31)) [⟨3, 1, y, v, 0, false⟩, ⟨3, 0, x, u, 0, false⟩] _ rfl
          have esz : (wy.drew.alloc (.cells #[] 31)).heap.size = wy.heap.size + 1 := by simp
          rw [esz] at hrc
          clear esz
          have HRC := Hid.in hrc
          clear hrc
          have HOC := Hid.in (HOA.out.step (below_alloc (wy.drew.alloc (.cells #[] 31)) (.cells #[.int .i64 3, .int .i64 1, .int .i64 (y : Int), .int .u32 v, .int .u32 0, .bool false, .int .i64 3, .int .i64 0, .int .i64 (x : Int), .int .u32 u, .int .u32 0, .bool false] 31)))
          refine wpBut_one (i := 2) rfl (by kernel_rfl) (fun K HK => ?_)
          refine step_concatA5 rfl 41 31 6 40 _ (.tmp 47) (.tmp 48) rfl Tryd.underlying41 Tryd.infoEv rfl (by decide) (by decide) wy.heap.size (some ⟨wy.heap.size, 0, none⟩) (some ⟨lb, 0, none⟩) 0 0 2 2 [] (([⟨2, 0, x, u, 0, false⟩, ⟨2, 1, y, v, 0, false⟩] : List Ev).map Ev.cs) rfl HOC.out rfl rfl (HRL.out.step (bstep HBY.out (Nat.le_refl _) HBC.out)) HBC.out.size (by decide) ?_
          intro aoh caph wh HOh HGh hbl
          have hbb := hbl.out (by decide)
          refine HK.out _ _ (fun _ => bstep HBC.out (Nat.le_refl _) hbb) ?_
          clear HK K
          try simp only [Act.put, List.setIfInBounds_toArray, List.set_cons_zero, List.set_cons_succ]
          have HBB : Hid (Below wy.heap.size wy wh) := Hid.in (bstep HBC.out (Nat.le_refl _) hbb)
          have HRB := Hid.in (HRC.out.step hbb)
          have HKB : Hid (∀ k, oblk aoh = some k → wy.heap.size ≤ k) := Hid.in (fun k hk => (HOh.out.blk k hk).1)
          clear hbb hbl HGh
          refine wpBut_one (i := 6) rfl (by kernel_rfl) (fun K HK => ?_)
          refine step_concatA5 rfl 41 31 6 40 _ (.tmp 49) (.tmp 52) rfl Tryd.underlying41 Tryd.infoEv rfl (by decide) (by decide) wy.heap.size aoh (some ⟨wy.heap.size + 1, 0, none⟩) 2 caph 2 2 (([⟨2, 0, x, u, 0, false⟩, ⟨2, 1, y, v, 0, false⟩] : List Ev).map Ev.cs) (([⟨3, 1, y, v, 0, false⟩, ⟨3, 0, x, u, 0, false⟩] : List Ev).map Ev.cs) rfl HOh.out rfl rfl HRB.out HBB.out.size (by decide) ?_
          intro aohc caphc whc HOhc HGhc _
          have HBhc : Hid (Below wy.heap.size wy whc) := Hid.in (HBB.out.grown HGhc.out HBB.out.size HKB.out)
          refine HK.out _ _ (fun _ => HBhc.out) ?_
          clear HK K
          try simp only [Act.put, List.setIfInBounds_toArray, List.set_cons_zero, List.set_cons_succ]
          have HRhc : Hid (RowE whc aohc caphc [⟨2, 0, x, u, 0, false⟩, ⟨2, 1, y, v, 0, false⟩, ⟨3, 1, y, v, 0, false⟩, ⟨3, 0, x, u, 0, false⟩]) := Hid.in (Rows'.evs HOhc.out)
          refine wpBut_one (i := 7) rfl (by kernel_rfl) (fun K HK => ?_)
          go_simp
          refine (treplay_c _ sa (HE.out.below (bstep HBL.out (Nat.le_refl _) (bstep HBY.out (Nat.le_refl _) HBhc.out))) 2 4 (by decide) (by decide) (by decide) (by decide) _ 4 _ [⟨2, 0, x, u, 0, false⟩, ⟨2, 1, y, v, 0, false⟩, ⟨3, 1, y, v, 0, false⟩, ⟨3, 0, x, u, 0, false⟩] rfl (by decide) HRhc.out none R3.out _ R4.out).mono ?_
          rintro r ws ⟨⟨mh, mch, rfl, hO⟩, hb6⟩
          have HMh := Hid.in (Rows'.us hO)
          have HBwss : Hid (Below wy.heap.size wy ws) := Hid.in (bstep HBhc.out (Nat.le_refl _) hb6)
          refine HK.out _ _ (fun _ => HBwss.out) ?_
          clear HK K HS
          try simp only [Act.put, List.setIfInBounds_toArray, List.set_cons_zero, List.set_cons_succ]
          have HS : Hid (Below wy.heap.size wy ws) := HBwss
          clear hb6 hO HRhc HOhc HGhc HBhc
          refine wpBut_take (i := 8) (v := ?_) rfl (by kernel_rfl) (by kernel_rfl) (by exact fun _ _ _ h => h) HS.out (Or.inl ⟨by rfl, ?_⟩) ?_
          case refine_2 => (intro W _; go_simp; try with_reducible rfl)
          simp only [Act.put, List.setIfInBounds_toArray, List.set_cons_zero, List.set_cons_succ]
          refine wpBut_take (i := 9) (v := ?_) rfl (by kernel_rfl) (by kernel_rfl) (by exact fun _ _ _ h => h) HS.out (Or.inl ⟨by rfl, ?_⟩) ?_
          case refine_2 => (intro W _; go_simp; try with_reducible rfl)
          simp only [Act.put, List.setIfInBounds_toArray, List.set_cons_zero, List.set_cons_succ]
          refine wpBut_take (i := 10) (v := ?_) rfl (by kernel_rfl) (by kernel_rfl) (by exact fun _ _ _ h => h) HS.out (Or.inl ⟨by rfl, ?_⟩) ?_
          case refine_2 => (intro W _; go_simp; try with_reducible rfl)
          simp only [Act.put, List.setIfInBounds_toArray, List.set_cons_zero, List.set_cons_succ]
          refine wpBut_take (i := 11) (v := ?_) rfl (by kernel_rfl) (by kernel_rfl) (by exact fun _ _ _ h => h) HS.out (Or.inl ⟨by rfl, ?_⟩) ?_
          case refine_2 => (intro W _; go_simp; try with_reducible rfl)
          simp only [Act.put, List.setIfInBounds_toArray, List.set_cons_zero, List.set_cons_succ]
          refine wpBut_one (i := 12) rfl (by kernel_rfl) (fun K HK => ?_)
          go_simp
          refine HK.out _ _ (fun h => absurd rfl h) ?_
          clear HK K
          refine wpBut_done (by kernel_rfl) ?_ _
          go_wp2_with fail
          go_meet
          case rel => exact ⟨_, _, rfl, rfl, HMh.out, HBwss.out⟩
      · go_simp
        refine HK.out _ _ (fun _ => bstep HS.out (Nat.le_refl _) (below_alloc _ _)) ?_
        clear HK K
        have HBC : Hid (Below wy.heap.size wy (wy.drew.alloc (.cells #[.int .i64 3, .int .i64 1, .int .i64 (y : Int), .int .u32 v, .int .u32 0, .bool false, .int .i64 3, .int .i64 0, .int .i64 (x : Int), .int .u32 u, .int .u32 0, .bool false] 31))) := Hid.in (bstep HS.out (Nat.le_refl _) (below_alloc _ _))
        have hrc : RowE (wy.drew.alloc (.cells #[.int .i64 3, .int .i64 1, .int .i64 (y : Int), .int .u32 v, .int .u32 0, .bool false, .int .i64 3, .int .i64 0, .int .i64 (x : Int), .int .u32 u, .int .u32 0, .bool false] 31)) (some ⟨wy.drew.heap.size, 0, none⟩) 2 [⟨3, 1, y, v, 0, false⟩, ⟨3, 0, x, u, 0, false⟩] := RowE.lits wy.drew [⟨3, 1, y, v, 0, false⟩, ⟨3, 0, x, u, 0, false⟩] _ rfl
        have esz : wy.drew.heap.size = wy.heap.size := by simp
        rw [esz] at hrc
        clear esz
        have HRC := Hid.in hrc
        clear hrc
        refine wpBut_one (i := 0) rfl (by kernel_rfl) (fun K HK => ?_)
        go_simp
        refine HK.out _ _ (fun _ => bstep HBC.out (Nat.le_refl _) (below_alloc _ _)) ?_
        clear HK K
        have HBA : Hid (Below wy.heap.size wy ((wy.drew.alloc (.cells #[.int .i64 3, .int .i64 1, .int .i64 (y : Int), .int .u32 v, .int .u32 0, .bool false, .int .i64 3, .int .i64 0, .int .i64 (x : Int), .int .u32 u, .int .u32 0, .bool false] 31)).alloc (.cells #[] 31))) := Hid.in (bstep HBC.out (Nat.le_refl _) (below_alloc _ _))
        have hoa : OwnA 31 6 ((wy.drew.alloc (.cells #[.int .i64 3, .int .i64 1, .int .i64 (y : Int), .int .u32 v, .int .u32 0, .bool false, .int .i64 3, .int .i64 0, .int .i64 (x : Int), .int .u32 u, .int .u32 0, .bool false] 31)).alloc (.cells #[] 31)) wy.heap.size (some ⟨(wy.drew.alloc (.cells #[.int .i64 3, .int .i64 1, .int .i64 (y : Int), .int .u32 v, .int .u32 0, .bool false, .int .i64 3, .int .i64 0, .int .i64 (x : Int), .int .u32 u, .int .u32 0, .bool false] 31)).heap.size, 0, none⟩) 0 0 [] := OwnA.empty _ _ _ _ HBC.out.size
        have esz : (wy.drew.alloc (.cells #[.int .i64 3, .int .i64 1, .int .i64 (y : Int), .int .u32 v, .int .u32 0, .bool false, .int .i64 3, .int .i64 0, .int .i64 (x : Int), .int .u32 u, .int .u32 0, .bool false] 31)).heap.size = wy.heap.size + 1 := by simp
        rw [esz] at hoa
        clear esz
        have HOA := Hid.in hoa
        clear hoa
        have HRA : Hid (RowE ((wy.drew.alloc (.cells #[.int .i64 3, .int .i64 1, .int .i64 (y : Int), .int .u32 v, .int .u32 0, .bool false, .int .i64 3, .int .i64 0, .int .i64 (x : Int), .int .u32 u, .int .u32 0, .bool false] 31)).alloc (.cells #[] 31)) (some ⟨wy.heap.size, 0, none⟩) 2 [⟨3, 1, y, v, 0, false⟩, ⟨3, 0, x, u, 0, false⟩]) := Hid.in (HRC.out.step (below_alloc _ _))
        refine wpBut_one (i := 2) rfl (by kernel_rfl) (fun K HK => ?_)
        refine step_concatA5 rfl 41 31 6 40 _ (.tmp 47) (.tmp 48) rfl Tryd.underlying41 Tryd.infoEv rfl (by decide) (by decide) wy.heap.size (some ⟨wy.heap.size + 1, 0, none⟩) (some ⟨lb, 0, none⟩) 0 0 2 2 [] (([⟨2, 0, x, u, 0, false⟩, ⟨2, 1, y, v, 0, false⟩] : List Ev).map Ev.cs) rfl HOA.out rfl rfl (HRL.out.step (bstep HBY.out (Nat.le_refl _) HBA.out)) HBA.out.size (by decide) ?_
        intro aoh caph wh HOh HGh hbl
        have hbb := hbl.out (by decide)
        refine HK.out _ _ (fun _ => bstep HBA.out (Nat.le_refl _) hbb) ?_
        clear HK K
        try simp only [Act.put, List.setIfInBounds_toArray, List.set_cons_zero, List.set_cons_succ]
        have HBB : Hid (Below wy.heap.size wy wh) := Hid.in (bstep HBA.out (Nat.le_refl _) hbb)
        have HRB := Hid.in (HRA.out.step hbb)
        have HKB : Hid (∀ k, oblk aoh = some k → wy.heap.size ≤ k) := Hid.in (fun k hk => (HOh.out.blk k hk).1)
        clear hbb hbl HGh
        refine wpBut_one (i := 6) rfl (by kernel_rfl) (fun K HK => ?_)
        refine step_concatA5 rfl 41 31 6 40 _ (.tmp 49) (.tmp 52) rfl Tryd.underlying41 Tryd.infoEv rfl (by decide) (by decide) wy.heap.size aoh (some ⟨wy.heap.size, 0, none⟩) 2 caph 2 2 (([⟨2, 0, x, u, 0, false⟩, ⟨2, 1, y, v, 0, false⟩] : List Ev).map Ev.cs) (([⟨3, 1, y, v, 0, false⟩, ⟨3, 0, x, u, 0, false⟩] : List Ev).map Ev.cs) rfl HOh.out rfl rfl HRB.out HBB.out.size (by decide) ?_
        intro aohc caphc whc HOhc HGhc _
        have HBhc : Hid (Below wy.heap.size wy whc) := Hid.in (HBB.out.grown HGhc.out HBB.out.size HKB.out)
        refine HK.out _ _ (fun _ => HBhc.out) ?_
        clear HK K
        try simp only [Act.put, List.setIfInBounds_toArray, List.set_cons_zero, List.set_cons_succ]
        have HRhc : Hid (RowE whc aohc caphc [⟨2, 0, x, u, 0, false⟩, ⟨2, 1, y, v, 0, false⟩, ⟨3, 1, y, v, 0, false⟩, ⟨3, 0, x, u, 0, false⟩]) := Hid.in (Rows'.evs HOhc.out)
        refine wpBut_one (i := 7) rfl (by kernel_rfl) (fun K HK => ?_)
        go_simp
        refine (treplay_c _ sa (HE.out.below (bstep HBL.out (Nat.le_refl _) (bstep HBY.out (Nat.le_refl _) HBhc.out))) 2 4 (by decide) (by decide) (by decide) (by decide) _ 4 _ [⟨2, 0, x, u, 0, false⟩, ⟨2, 1, y, v, 0, false⟩, ⟨3, 1, y, v, 0, false⟩, ⟨3, 0, x, u, 0, false⟩] rfl (by decide) HRhc.out none R3.out _ R4.out).mono ?_
        rintro r ws ⟨⟨mh, mch, rfl, hO⟩, hb6⟩
        have HMh := Hid.in (Rows'.us hO)
        have HBwss : Hid (Below wy.heap.size wy ws) := Hid.in (bstep HBhc.out (Nat.le_refl _) hb6)
        refine HK.out _ _ (fun _ => HBwss.out) ?_
        clear HK K HS
        try simp only [Act.put, List.setIfInBounds_toArray, List.set_cons_zero, List.set_cons_succ]
        have HS : Hid (Below wy.heap.size wy ws) := HBwss
        clear hb6 hO HRhc HOhc HGhc HBhc
        refine wpBut_take (i := 8) (v := ?_) rfl (by kernel_rfl) (by kernel_rfl) (by exact fun _ _ _ h => h) HS.out (Or.inl ⟨by rfl, ?_⟩) ?_
        case refine_2 => (intro W _; go_simp; try with_reducible rfl)
        simp only [Act.put, List.setIfInBounds_toArray, List.set_cons_zero, List.set_cons_succ]
        refine wpBut_take (i := 9) (v := ?_) rfl (by kernel_rfl) (by kernel_rfl) (by exact fun _ _ _ h => h) HS.out (Or.inl ⟨by rfl, ?_⟩) ?_
        case refine_2 => (intro W _; go_simp; try with_reducible rfl)
        simp only [Act.put, List.setIfInBounds_toArray, List.set_cons_zero, List.set_cons_succ]
        refine wpBut_take (i := 10) (v := ?_) rfl (by kernel_rfl) (by kernel_rfl) (by exact fun _ _ _ h => h) HS.out (Or.inl ⟨by rfl, ?_⟩) ?_
        case refine_2 => (intro W _; go_simp; try with_reducible rfl)
        simp only [Act.put, List.setIfInBounds_toArray, List.set_cons_zero, List.set_cons_succ]
        refine wpBut_take (i := 11) (v := ?_) rfl (by kernel_rfl) (by kernel_rfl) (by exact fun _ _ _ h => h) HS.out (Or.inl ⟨by rfl, ?_⟩) ?_
        case refine_2 => (intro W _; go_simp; try with_reducible rfl)
        simp only [Act.put, List.setIfInBounds_toArray, List.set_cons_zero, List.set_cons_succ]
        refine wpBut_one (i := 12) rfl (by kernel_rfl) (fun K HK => ?_)
        go_simp
        refine HK.out _ _ (fun h => absurd rfl h) ?_
        clear HK K
        refine wpBut_done (by kernel_rfl) ?_ _
        go_wp2_with fail
        go_meet
        case rel => exact ⟨_, _, rfl, rfl, HMh.out, HBwss.out⟩
    case rest =>
      obtain ⟨m2, mc2, rfl, rfl, hM, hb⟩ := hcut
      rename World => wz
      have HM2 := Hid.in hM
      have HM3 := Hid.in (HM1.out.step hb)
      have HBZ : Hid (Below w.heap.size w wz) := Hid.in (bstep HBL.out (Nat.le_refl _) (bstep HBY.out (Nat.le_refl _) hb))
      clear hM hb HFh HM1 HBY
      obtain ⟨s, hs⟩ : ∃ s, decide ((([0, 0, 0, 0] : List Int).set x u).set y v = (([0, 0, 0, 0] : List Int).set y v).set x u) = s := ⟨_, rfl⟩
      have HS := Hid.in hs
      clear hs
      go_wp2_with fail
      refine (sameU_any _ m1 m2 4 4 mc1 mc2 _ _ (by simp) (by simp) HM3.out HM2.out (by decide) s HS.out).mono ?_
      rintro r wq ⟨rfl, hb⟩
      have HBQ := Hid.in (bstep HBZ.out (Nat.le_refl _) hb)
      obtain ⟨b1, o1, z1, rfl, k1, k1e⟩ := (HM3.out.step hb).uat y (by simpa using hy4)
      obtain ⟨b2, o2, z2, rfl, k2, k2e⟩ := (HM2.out.step hb).uat x (by simpa using hx4)
      rw [List.getElem?_set_self (by simpa using hy4)] at k1e
      rw [List.getElem?_set_self (by simpa using hx4)] at k2e
      cases k1e
      cases k2e
      have HSE : Hid (s = decide (x ≠ y ∨ u = v)) := Hid.in (by rw [← HS.out]; exact com_same x y u v hx4 hy4)
      have i1 : (y : Int) < 4 := by omega
      have i2 : (x : Int) < 4 := by omega
      clear hb HM2 HM3 HBZ HS
      by_cases hxy : x = y
      · have e1 : ((x : Int) != (y : Int)) = false := by simp; omega
        by_cases huv : u = v
        · have e2 : (u == v) = true := by simpa using huv
          obtain rfl : s = true := by rw [HSE.out]; exact decide_eq_true (.inr huv)
          clear hxy huv
          go_wp2_with fail
          refine (tsoRuns_any _ sa (HE.out.below HBQ.out)).mono ?_
          rintro r wv ⟨rfl, hb⟩
          have HBV := Hid.in (bstep HBQ.out (Nat.le_refl _) hb)
          clear hb
          go_wp2
          go_ret
          exact ⟨rfl, HBV.out⟩
        · have e2 : (u == v) = false := by simpa using huv
          obtain rfl : s = false := by rw [HSE.out]; exact decide_eq_false (fun h => by rcases h with h | h; (· exact h hxy); exact huv h)
          clear hxy huv
          go_wp2_with fail
          refine (tsoRuns_any _ sa (HE.out.below HBQ.out)).mono ?_
          rintro r wv ⟨rfl, hb⟩
          have HBV := Hid.in (bstep HBQ.out (Nat.le_refl _) hb)
          clear hb
          go_wp2
          go_ret
          exact ⟨rfl, HBV.out⟩
      · have e1 : ((x : Int) != (y : Int)) = true := by simp; omega
        obtain rfl : s = true := by rw [HSE.out]; exact decide_eq_true (.inl hxy)
        clear hxy
        go_wp2_with fail
        refine (tsoRuns_any _ sa (HE.out.below HBQ.out)).mono ?_
        rintro r wv ⟨rfl, hb⟩
        have HBV := Hid.in (bstep HBQ.out (Nat.le_refl _) hb)
        clear hb
        go_wp2
        go_ret
        exact ⟨rfl, HBV.out⟩
end Go.Proofs.YtncgjclehplfeabDoor

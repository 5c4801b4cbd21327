/- DERIVED of the program: prog.Get and prog.Parse by their contracts; assentbook.Same of rows of operations. Own work. -/
import Derived.Test.YtbanihjjeicdaaaDoorPgD
import Derived.Laws.StructEq
import Derived.ChangeKeysEq
namespace Go.Proofs.YtbanihjjeicdaaaDoor
open Go.RowKit Go.Extern.Stop Go.Stop Go.Extern

theorem Tryd.infoOp : (Tryd.prog.info? 29).map (fun i => (i.zero, i.size, i.bytes)) = some (some (.agg #[.int .i64 0, .int .i64 0, .int .u32 0, .int .u32 0]), 4, 24) := by kernel_rfl

theorem grown_row {w w1 w2 : World} {row r2 : Option Nat} (h : w.grownBy w1 row) (h2 : w1.grownBy w2 r2) (hr : ∀ k, r2 = some k → w.heap.size ≤ k) : w.grownBy w2 row :=
  ⟨h2.os.trans h.os, h2.tape.trans h.tape, h2.output.trans h.output, Nat.le_trans h.size h2.size, fun k hk hn => (h2.block k (Nat.lt_of_lt_of_le hk h.size) (fun e => absurd (hr k e.symm) (by omega))).trans (h.block k hk hn)⟩
theorem below_row {B : Nat} {w w1 w2 : World} {r2 : Option Nat} (h : Below B w w1) (h2 : w1.grownBy w2 r2) (hB : B ≤ w1.heap.size) (hr : ∀ k, r2 = some k → B ≤ k) : Below B w w2 := h.grown h2 hB hr

/-- The call's own row of operations. -/
abbrev OwnO (w : World) (B : Nat) (ao : Option Addr) (n cap : Nat) (L : List O4) : Prop := OwnA 29 4 w B ao n cap (L.map oc)

theorem In_bounds {bs : List Nat} {at_ c c1 p1 : Nat} {m : Int} (h : inS bs 0 64 at_ c = (c1, m, p1)) : 0 ≤ m ∧ m ≤ 64 := by
  have := inS_num bs 0 64 at_ c
  rw [h] at this
  simp only at this
  omega

set_option maxHeartbeats 1600000 in
set_option maxRecDepth 20000 in
theorem gGet_any (w0 w : World) (sa : Nat → Addr) (hE : Env10 w0 sa) (hb0 : Below w0.heap.size w0 w) (ra rz q at_ c : Nat) (bs : List Nat) (hR : Rd w sa ra rz q bs at_ c) (hq : w0.heap.size ≤ q) (hz : rz ≤ w.heap.size) (n : Int) (n1 : 1 ≤ n) (n2 : n ≤ 128) (c' : Nat) (L : List O4) (p' : Nat) (h : getP bs (n - 1) at_ c = (c', L, p')) :
    Calls Tryd.prog 27 #[.pointer (some ⟨q, 0, none⟩), .int .i64 n] w fun r w' => ∃ v, r = .returned v ∧ Rd w' sa ra rz q bs p' c' ∧ w.grownBy w' (some q) ∧ (c' ≠ 0 → v = .slice none 0 0) ∧ (c' = 0 → ∃ ao cap, v = .slice ao L.length cap ∧ OwnO w' w.heap.size ao L.length cap L) := by
  rcases h1 : inS bs 0 64 at_ c with ⟨c1, m, p1⟩
  obtain ⟨m0, m1⟩ := In_bounds h1
  unfold getP at h
  rw [h1] at h
  simp only at h
  obtain ⟨M, rfl⟩ : ∃ M : Nat, m = (M : Int) := ⟨m.toNat, by omega⟩
  rw [Int.toNat_natCast] at h
  have HE := Hid.in hE
  have HB0 := Hid.in hb0
  have HR := Hid.in hR
  have HQ := Hid.in hq
  have HZ := Hid.in hz
  have H := Hid.in h
  have H1 := Hid.in h1
  have HQW := Hid.in hR.lt
  clear hE hb0 hR hq hz h h1
  go_enter Tryd.func27, Tryd.ntmps27
  go_wp2_with fail
  refine (in_any _ sa (HE.out.below HB0.out) ra rz q at_ c bs HR.out 0 64).mono ?_
  rw [H1.out]
  rintro r w1 ⟨rfl, hR1, hg1⟩
  have HR1 := Hid.in hR1
  have HG1 := Hid.in hg1
  clear hR1 hg1
  go_wp2
  go_loopw [6, 15] (fun l i wr => ∃ (j : Nat) (ao : Option Addr) (cap cj pj : Nat) (Lj : List O4), j ≤ M ∧ i = .int .i64 (j : Int) ∧ l = .slice ao j cap ∧ getL bs (n - 1) j p1 c1 = (cj, Lj, pj) ∧ OwnO wr w.heap.size ao j cap Lj ∧ Rd wr sa ra rz q bs pj cj ∧ w.grownBy wr (some q)) (fun _ i _ => M - (intOf i).toNat)
  case atStart => exact ⟨0, none, 0, c1, p1, [], Nat.zero_le _, rfl, rfl, rfl, OwnA.nil _ _ _ _, HR1.out, HG1.out⟩
  case round =>
    obtain ⟨j, ao, cap, cj, pj, Lj, hj, rfl, rfl, hgl, hO, hRj, hgj⟩ := hrel
    have HGL := Hid.in hgl
    have HO := Hid.in hO
    have HRj := Hid.in hRj
    have HGj := Hid.in hgj
    clear hgl hO hRj hgj
    by_cases hlt : j < M
    · rcases hx : getO bs (n - 1) pj cj with ⟨c2, ⟨k, a, v, d⟩, p2⟩
      have HX := Hid.in hx
      clear hx
      go_wp2_with fail
      refine (gget_any w0 wr sa HE.out (below_row HB0.out HGj.out HB0.out.size (fun k hk => by cases hk; exact HQ.out)) ra rz q pj cj bs HRj.out HQ.out (Nat.le_trans HZ.out HGj.out.size) (n - 1) k a v d c2 p2 HX.out).mono ?_
      rintro r w2 ⟨rfl, hR2, hg2⟩
      have HR2 := Hid.in hR2
      have HG2 := Hid.in (grown_trans HGj.out hg2)
      have HO2 : Hid (OwnO w2 w.heap.size ao j cap Lj) := Hid.in (HO.out.kept hg2 (fun k hk e => by cases e; have := (HO.out.blk _ hk).1; have := HQW.out; omega))
      clear hR2 hg2
      have HO3 : Hid (OwnO (w2.alloc (.cells #[.int .i64 k, .int .i64 a, .int .u32 v, .int .u32 d] 29)) w.heap.size ao j cap Lj) := Hid.in (HO2.out.step (below_alloc _ _))
      have HS3 : Hid (Rows' 4 (w2.alloc (.cells #[.int .i64 k, .int .i64 a, .int .u32 v, .int .u32 d] 29)) (some ⟨w2.heap.size, 0, none⟩) 1 [oc (k, a, v, d)]) := Hid.in (Rows'.lit 4 w2 29 (oc (k, a, v, d)) _ rfl rfl (oc_one _))
      have HBB : Hid (w.heap.size ≤ (w2.alloc (.cells #[.int .i64 k, .int .i64 a, .int .u32 v, .int .u32 d] 29)).heap.size) := Hid.in (by have := HG2.out.size; simp; omega)
      have hj1 : j + 1 ≤ 1000000 := by omega
      go_wp2_with (at_builtin; refine wpList_concatA rfl 30 29 4 24 _ (.tmp 17) (.tmp 21) rfl Tryd.underlying30 Tryd.infoOp rfl (by decide) (by decide) w.heap.size ao (some ⟨w2.heap.size, 0, none⟩) j cap 1 1 (Lj.map oc) [oc (k, a, v, d)] rfl HO3.out rfl rfl HS3.out HBB.out hj1 ?_; intro ao3 cap3 w3 HO4 HG4 _ _)
      go_roundw
      case rel =>
        have hown : ∀ k, oblk ao = some k → w.heap.size ≤ k := fun k hk => (HO2.out.blk k hk).1
        refine ⟨j + 1, ao3, cap3, c2, p2, Lj ++ [(k, a, v, d)], by omega, by go_num, rfl, getL_succ HGL.out HX.out, ?_, ?_, ?_⟩
        · have h := HO4.out
          rw [show Lj.map oc ++ [oc (k, a, v, d)] = (Lj ++ [(k, a, v, d)]).map oc by simp] at h
          exact h
        · exact (HR2.out.step (below_alloc _ _)).kept HG4.out (fun k hk => by have := hown k hk; have := HZ.out; omega)
        · exact grown_row (grown_trans HG2.out (grown_of_below (below_alloc _ _) _)) HG4.out hown
      case measure => simp [intOf]; omega
    · have hjM : j = M := by omega
      have HJM := Hid.in hjM
      clear hjM
      have HEQ : Hid (cj = c' ∧ Lj = L ∧ pj = p') := Hid.in (by
        have h := H.out
        rw [← HJM.out, HGL.out] at h
        simpa only [Prod.mk.injEq] using h)
      go_wp2_with fail
      refine (rwrong_any wr sa ra rz q pj cj bs HRj.out).mono ?_
      by_cases hc : cj = 0
      · subst hc
        rw [rerr_no]
        rintro r wr ⟨rfl, rfl⟩
        go_wp2
        go_ret
        obtain ⟨e1, e2, e3⟩ := HEQ.out
        refine ⟨_, rfl, by rw [← e1, ← e3]; exact HRj.out, HGj.out, fun hn => absurd e1.symm hn, fun _ => ⟨ao, cap, ?_, ?_⟩⟩
        · have := HO.out.len
          rw [List.length_map, e2] at this
          rw [this]
          rfl
        · have := HO.out.len
          rw [List.length_map, e2] at this
          rw [this, ← e2]
          exact HO.out
      · rw [rerr_yes _ _ _ hc]
        have HC := Hid.in hc
        clear hc
        rintro r wr ⟨rfl, rfl⟩
        go_wp2
        go_ret
        obtain ⟨e1, e2, e3⟩ := HEQ.out
        exact ⟨_, rfl, by rw [← e1, ← e3]; exact HRj.out, HGj.out, fun _ => rfl, fun hn => absurd (e1.trans hn) HC.out⟩

theorem parse_any (ao : Option Addr) (N cap : Nat) (bs : List Nat) (n : Int) (w : World) (sa : Nat → Addr) (hE : Env10 w sa) (hN : N = bs.length) (hL : Lie w ao cap bs) (hby : ∀ x ∈ bs, x < 256) (hlen : bs.length ≤ 140737488355328) (n1 : 1 ≤ n) (n2 : n ≤ 128) (c p : Nat) (L : List O4) (h : getP bs (n - 1) 0 0 = (c, L, p)) :
    Calls Tryd.prog 10 #[.slice ao N cap, .int .i64 n] w fun r w' => ∃ v e, r = .returned (.tuple #[v, e]) ∧ Below w.heap.size w w' ∧
      (endS bs p c ≠ 0 → v = .slice none 0 0 ∧ e = flt opGParse 0 (flt opP (p : Int) (snt (sa (endS bs p c))))) ∧
      (endS bs p c = 0 → e = .nilIface ∧ ∃ a' c', v = .slice a' L.length c' ∧ OwnO w' w.heap.size a' L.length c' L) := by
  subst hN
  have HE := Hid.in hE
  have HL := Hid.in hL
  have HBY := Hid.in hby
  have H := Hid.in h
  clear hE hL hby h
  go_enter Tryd.func10, Tryd.ntmps10
  go_wp2_with fail
  refine (read_any ao cap bs w sa HL.out HBY.out hlen).mono ?_
  rintro r w1 ⟨q, rfl, hR1, hb1⟩
  have HR1 := Hid.in hR1
  have HB1 := Hid.in hb1
  clear hR1 hb1
  go_wp2_with fail
  refine (gGet_any w w1 sa HE.out HB1.out w.heap.size w1.heap.size q 0 0 bs HR1.out HR1.out.rng.1 (Nat.le_refl _) n n1 n2 c L p H.out).mono ?_
  rintro r w2 ⟨v, rfl, hR2, hg2, hv1, hv2⟩
  have HR2 := Hid.in hR2
  have HB2 : Hid (Below w.heap.size w w2) := Hid.in (wrote HB1.out hg2 (Nat.le_refl _) HR1.out.rng.1)
  have HV1 := Hid.in hv1
  have HV2 := Hid.in hv2
  clear hR2 hg2 hv1 hv2
  go_wp2_with fail
  refine (rend_any w2 sa (HE.out.below HB2.out) w.heap.size w1.heap.size q p c bs HR2.out).mono ?_
  by_cases he : endS bs p c = 0
  · have hc : c = 0 := by
      apply Classical.byContradiction
      intro hc
      unfold endS at he
      rw [if_pos hc] at he
      exact hc he
    obtain ⟨a', c', rfl, hO⟩ := HV2.out hc
    have HO := Hid.in hO
    clear hO
    rw [he, rerr_no]
    have HEE := Hid.in he
    clear he HV1 HV2 hc
    rintro r w3 ⟨rfl, hR3, hg3⟩
    have HB3 : Hid (Below w.heap.size w w3) := Hid.in (wrote HB2.out hg3 (Nat.le_refl _) HR1.out.rng.1)
    have HO3 : Hid (OwnO w3 w1.heap.size a' L.length c' L) := Hid.in (HO.out.kept hg3 (fun k hk e => by cases e; have := (HO.out.blk _ hk).1; have := HR1.out.rng.2; omega))
    clear hR3 hg3
    go_wp2
    go_ret2
    exact ⟨_, _, rfl, HB3.out, fun hn => absurd HEE.out hn, fun _ => ⟨rfl, a', c', rfl, HO3.out.low HB1.out.size⟩⟩
  · have HNE := Hid.in he
    rw [rerr_yes _ _ _ he]
    clear he
    rintro r w3 ⟨rfl, hR3, hg3⟩
    have HB3 : Hid (Below w.heap.size w w3) := Hid.in (wrote HB2.out hg3 (Nat.le_refl _) HR1.out.rng.1)
    clear hR3 hg3
    go_wp2_with fail
    refine (wrap_some _ _ _ _ _).mono ?_
    rintro r w3 ⟨rfl, rfl⟩
    go_wp2
    go_ret2
    exact ⟨_, _, rfl, HB3.out, fun _ => ⟨rfl, rfl⟩, fun hn => absurd hn HNE.out⟩

/-- Bytes that are a program. -/
theorem parse_ok (ao : Option Addr) (N cap : Nat) (L : List O4) (n : Int) (w : World) (sa : Nat → Addr) (hE : Env10 w sa) (hN : N = (encP L).length) (hL : Lie w ao cap (encP L)) (n1 : 1 ≤ n) (n2 : n ≤ 128) (hx : ∀ x ∈ L, rt x n = true ∧ O32 x) (hl : L.length ≤ 64) :
    Calls Tryd.prog 10 #[.slice ao N cap, .int .i64 n] w fun r w' => ∃ a' M c', r = .returned (.tuple #[.slice a' M c', .nilIface]) ∧ M = L.length ∧ OwnO w' w.heap.size a' M c' L ∧ Below w.heap.size w w' := by
  have hg := getP_enc [] hx hl
  rw [List.append_nil] at hg
  refine (parse_any ao N cap (encP L) n w sa hE hN hL (encP_byte L) (by have := encP_len L hx hl; omega) n1 n2 _ _ _ hg).mono ?_
  rintro r w' ⟨v, e, rfl, hb, _, h2⟩
  obtain ⟨rfl, a', c', rfl, hO⟩ := h2 (by unfold endS; simp)
  exact ⟨a', _, c', rfl, rfl, hO, hb⟩

set_option maxRecDepth 100000 in
theorem eqIn_op (d : Nat) (x y z u : Int) (w : World) : (Op.equalIn (d + 5) 29 (.agg #[.int .i64 x, .int .i64 y, .int .u32 z, .int .u32 u]) (.agg #[.int .i64 x, .int .i64 y, .int .u32 z, .int .u32 u])).run Tryd.prog w = .ok true w := by
  rw [run_equalIn_struct w (d + 4) 29 _ _ Tryd.underlying29 (by kernel_rfl)]
  simp [Op.eqFields, go_sem]
theorem ne_op (x y z u : Int) (w : World) : (binOp .neq 29 (.agg #[.int .i64 x, .int .i64 y, .int .u32 z, .int .u32 u]) (.agg #[.int .i64 x, .int .i64 y, .int .u32 z, .int .u32 u])).run Tryd.prog w = .ok (.bool false) w := by
  have h := eqIn_op 9995 x y z u w
  simp only [binOp]
  simp [Op.equal, Op.maxDepth, h]
theorem eq_op (x y z u : Int) (w : World) : (binOp .eql 29 (.agg #[.int .i64 x, .int .i64 y, .int .u32 z, .int .u32 u]) (.agg #[.int .i64 x, .int .i64 y, .int .u32 z, .int .u32 u])).run Tryd.prog w = .ok (.bool true) w := by
  have h := eqIn_op 9995 x y z u w
  simp only [binOp]
  simp [Op.equal, Op.maxDepth, h]

set_option maxHeartbeats 1600000 in
set_option maxRecDepth 20000 in
theorem sameO_any (a1 a2 : Option Addr) (N c1 c2 : Nat) (L : List O4) (w : World) (hN : N = L.length) (h1 : RowO w a1 c1 L) (h2 : RowO w a2 c2 L) (hlen : N ≤ 1000000) :
    Calls Tryd.prog 22 #[.slice a1 N c1, .slice a2 N c2] w fun r w' => r = .returned (.bool true) ∧ Below w.heap.size w w' := by
  have H1 := Hid.in h1
  have H2 := Hid.in h2
  have HN := Hid.in hN
  clear h1 h2 hN
  go_enter Tryd.func22, Tryd.ntmps22
  go_wp2
  go_loopw [5] (fun c wr => ∃ j : Nat, j ≤ N ∧ c = .int .i64 (j : Int) ∧ Below w.heap.size w wr) (fun c _ => N - (intOf c).toNat)
  case atStart => exact ⟨0, Nat.zero_le _, rfl, Below.refl _ _⟩
  case round =>
    obtain ⟨j, hj, rfl, hb⟩ := hrel
    have HB := Hid.in hb
    clear hb
    by_cases hlt : j < N
    · obtain ⟨b1, o1, e0, e1, e2, e3, rfl, x0, x1, x2, x3, k1⟩ := (H1.out.step HB.out).oat j (by have := HN.out; omega)
      obtain ⟨b2, o2, f0, f1, f2, f3, rfl, y0, y1, y2, y3, k2⟩ := (H2.out.step HB.out).oat j (by have := HN.out; omega)
      rw [k1] at k2
      cases k2
      clear k1
      have hne := ne_op e0 e1 e2 e3
      have i1 : (j : Int) < (N : Int) := by omega
      go_wp2
      go_quiet (fail)
      go_wp2
      go_roundw
      case rel => exact ⟨j + 1, by omega, by go_num, drewN_below HB.out _⟩
      case measure => simp [intOf]; omega
    · go_wp2
      go_ret
      exact ⟨rfl, HB.out⟩

end Go.Proofs.YtbanihjjeicdaaaDoor

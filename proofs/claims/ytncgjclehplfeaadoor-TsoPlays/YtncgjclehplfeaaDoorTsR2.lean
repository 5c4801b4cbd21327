/- DERIVED of the program: Step of the document's own model by its contract. Own work. -/
import Derived.Test.YtncgjclehplfeaaDoorTsR
import Derived.Deep.CutBlock
namespace Go.Proofs.YtncgjclehplfeaaDoor
open Go.RowKit Go.Extern.Stop Go.Stop Go.Extern

theorem Tryd.infoRW : (Tryd.prog.info? 90).map (fun i => (i.zero, i.size, i.bytes)) = some (some (.agg #[.int .i64 0, .int .u32 0]), 2, 16) := by kernel_rfl
set_option maxRecDepth 100000 in
theorem eqIn_rw (d : Nat) (a b c e : Int) (w : World) : (Op.equalIn (d + 3) 90 (.agg #[.int .i64 a, .int .u32 b]) (.agg #[.int .i64 c, .int .u32 e])).run Tryd.prog w = .ok (decide (a = c ∧ b = e)) w := by
  rw [run_equalIn_struct w (d + 2) 90 _ _ Tryd.underlying90 (by kernel_rfl)]
  by_cases h1 : a = c
  · by_cases h2 : b = e
    · simp [Op.eqFields, go_sem, h1, h2]
    · simp [Op.eqFields, go_sem, h1, h2]
  · simp [Op.eqFields, go_sem, h1]
theorem ne_rw (a b c e : Int) (y : Bool) (h : (!decide (a = c ∧ b = e)) = y) (w : World) : (binOp .neq 90 (.agg #[.int .i64 a, .int .u32 b]) (.agg #[.int .i64 c, .int .u32 e])).run Tryd.prog w = .ok (.bool y) w := by
  subst h
  have h := eqIn_rw 9997 a b c e w
  simp only [binOp]
  simp [Op.equal, Op.maxDepth, h]
theorem OwnA.rw2 {w : World} {ao : Option Addr} {n cap : Nat} {L : List (Int × Int)} (h : OwnA 90 2 w 0 ao n cap (L.map wc)) : Rows' 2 w ao cap (L.map wc) := h.rows (wcs_one L)
theorem kn_no {nA nM : Nat} {k c a v n : Int} {d : Bool} (h : ¬ ((1 ≤ k ∧ k ≤ 5) ∧ 0 ≤ c ∧ c < (nA : Int))) : knP nA nM ⟨k, c, a, v, n, d⟩ = false := by
  cases hk : knP nA nM ⟨k, c, a, v, n, d⟩ with
  | false => rfl
  | true => obtain ⟨h1, ⟨m, rfl, h2⟩, _⟩ := knP_of hk; exact absurd ⟨h1, by omega, by omega⟩ h
theorem kn_no2 {nA nM : Nat} {k c a v n : Int} {d : Bool} (h5 : k ≠ 5) (h : ¬ (0 ≤ a ∧ a < (nM : Int))) : knP nA nM ⟨k, c, a, v, n, d⟩ = false := by
  cases hk : knP nA nM ⟨k, c, a, v, n, d⟩ with
  | false => rfl
  | true => obtain ⟨h1, _, h2⟩ := knP_of hk; obtain ⟨m, rfl, h3⟩ := h2 h5; exact absurd ⟨by omega, by omega⟩ h
theorem refP_no {A : List (List (Int × Int))} {M : List Int} {e : Ev} (h : knP A.length M.length e = false) : refP A M e = 1 ∧ stA A M e = A ∧ stM A M e = M := by
  have h1 : refP A M e = 1 := by unfold refP; rw [if_pos h]
  exact ⟨h1, by unfold stA; rw [if_neg (by rw [h1]; decide)], by unfold stM; rw [if_neg (by rw [h1]; decide)]⟩


set_option maxHeartbeats 6400000 in
set_option maxRecDepth 20000 in
theorem rstep_no (w : World) (q N : Nat) (S : List Nat) (A : List (List (Int × Int))) (M : List Int) (hT : RM w q S N A M) (k c a v n : Int) (d : Bool) (h : knP A.length M.length ⟨k, c, a, v, n, d⟩ = false) :
    Calls Tryd.prog 19 #[.pointer (some ⟨q, 0, none⟩), evv k c a v n d] w fun r w' => r = .returned (.int .i64 1) ∧ Below w.heap.size w w' := by
  obtain ⟨ab, capb, am, capm, hq⟩ := hT.blk
  obtain ⟨nA, hnA⟩ : ∃ n, A.length = n := ⟨_, rfl⟩
  obtain ⟨nM, hnM⟩ : ∃ n, M.length = n := ⟨_, rfl⟩
  rw [hnA, hnM] at hq h
  have k0 : (w.alloc (.cells #[.int .i64 k, .int .i64 c, .int .i64 a, .int .u32 v, .int .u32 n, .bool d] 24)).cell? ⟨q, 0, none⟩ = some (.slice ab nA capb) := blk_cell (((below_alloc w _).block q (blk_lt hq)).trans hq) rfl
  have k1 : (w.alloc (.cells #[.int .i64 k, .int .i64 c, .int .i64 a, .int .u32 v, .int .u32 n, .bool d] 24)).cell? ⟨q, 1, none⟩ = some (.slice am nM capm) := blk_cell (((below_alloc w _).block q (blk_lt hq)).trans hq) rfl
  have HH := Hid.in h
  clear h hq hT hnA hnM
  go_enter Tryd.func19, Tryd.ntmps19
  go_upto_region 1 with fail
  generalize hwx : w.alloc _ = wx at k0 k1
  have HB : Hid (Below w.heap.size w wx) := Hid.in (by rw [← hwx]; exact below_alloc _ _)
  have e0 : wx.cell? ⟨w.heap.size, 0, none⟩ = some (.int .i64 k) := by rw [← hwx]; exact blk_cell (heap_alloc_new _ _) rfl
  have e1 : wx.cell? ⟨w.heap.size, 1, none⟩ = some (.int .i64 c) := by rw [← hwx]; exact blk_cell (heap_alloc_new _ _) rfl
  have e2 : wx.cell? ⟨w.heap.size, 2, none⟩ = some (.int .i64 a) := by rw [← hwx]; exact blk_cell (heap_alloc_new _ _) rfl
  clear hwx
  by_cases h1 : c < 0
  · go_quiet (fail)
    go_wp2
    go_ret
    exact ⟨rfl, drewN_below HB.out _⟩
  by_cases h2 : (nA : Int) ≤ c
  · have h1' : (0 : Int) ≤ c := by omega
    go_quiet (fail)
    go_wp2
    go_ret
    exact ⟨rfl, drewN_below HB.out _⟩
  have h1' : (0 : Int) ≤ c := by omega
  have h2' : c < (nA : Int) := by omega
  by_cases h3 : k < 1
  · go_quiet (fail)
    go_wp2
    go_ret
    exact ⟨rfl, drewN_below HB.out _⟩
  by_cases h4 : 5 < k
  · have h3' : (1 : Int) ≤ k := by omega
    go_quiet (fail)
    go_wp2
    go_ret
    exact ⟨rfl, drewN_below HB.out _⟩
  have h3' : (1 : Int) ≤ k := by omega
  have h4' : k ≤ 5 := by omega
  by_cases h5 : k = 5
  · exfalso
    subst h5
    obtain ⟨m, rfl⟩ : ∃ m : Nat, c = (m : Int) := ⟨c.toNat, by omega⟩
    have := HH.out
    rw [kn_fence (by omega)] at this
    cases this
  have h5' : (k != 5) = true := by simpa using h5
  by_cases h6 : a < 0
  · go_quiet (fail)
    go_wp2
    go_quiet (fail)
    go_wp2
    go_ret
    exact ⟨rfl, drewN_below (drewN_below HB.out _) _⟩
  by_cases h7 : (nM : Int) ≤ a
  · have h6' : (0 : Int) ≤ a := by omega
    go_quiet (fail)
    go_wp2
    go_quiet (fail)
    go_wp2
    go_ret
    exact ⟨rfl, drewN_below (drewN_below HB.out _) _⟩
  · exfalso
    obtain ⟨m, rfl⟩ : ∃ m : Nat, c = (m : Int) := ⟨c.toNat, by omega⟩
    obtain ⟨x, rfl⟩ : ∃ m : Nat, a = (m : Int) := ⟨a.toNat, by omega⟩
    have := HH.out
    rw [kn_ok (by omega) (by omega) (by omega) (by omega)] at this
    cases this
set_option maxHeartbeats 6400000 in
set_option maxRecDepth 20000 in
theorem rstep_5 (w : World) (q N : Nat) (S : List Nat) (A : List (List (Int × Int))) (M : List Int) (hT : RM w q S N A M) (m : Nat) (hm : m < A.length) (a : Int) (v n : Int) (d : Bool) (r0 : Nat) (h : refL (A.getD m []) M ⟨5, m, a, v, n, d⟩ = r0) :
    Calls Tryd.prog 19 #[.pointer (some ⟨q, 0, none⟩), evv 5 (m : Int) a v n d] w fun r w' => r = .returned (.int .i64 (r0 : Int)) ∧ ∃ S', RTurned w w' q S S' (N + 1) (if r0 = 0 then doA A ⟨5, m, a, v, n, d⟩ else A) (if r0 = 0 then doM M ⟨5, m, a, v, n, d⟩ else M) := by
  have HT := Hid.in hT
  have HM := Hid.in hm
  have hbx := below_alloc w (.cells #[.int .i64 5, .int .i64 (m : Int), .int .i64 a, .int .u32 v, .int .u32 n, .bool d] 24)
  obtain ⟨bb, o, capb, ao, cap, k0, k1, kf, hO, hbb, hrow⟩ := (hT.step hbx).row hm
  have HO := Hid.in hO
  have HROW := Hid.in hrow
  have HBB := Hid.in hbb
  obtain ⟨L, hL⟩ : ∃ L, A.getD m [] = L := ⟨_, rfl⟩
  rw [hL] at k1 HO h
  obtain ⟨nL, hnL⟩ : ∃ n, L.length = n := ⟨_, rfl⟩
  rw [hnL] at k1 HO
  obtain ⟨nA, hnA⟩ : ∃ n, A.length = n := ⟨_, rfl⟩
  rw [hnA] at k0 hm
  have HL := Hid.in hL
  have HNL := Hid.in hnL
  have HH := Hid.in h
  have i1 : (m : Int) < (nA : Int) := by omega
  clear hT hL hnL hnA h hO hrow hbb hbx 
  go_enter Tryd.func19, Tryd.ntmps19
  go_upto_region 1 with fail
  generalize hwx : w.alloc _ = wx at k0 k1 kf HO HROW 
  have HB : Hid (Below w.heap.size w wx) := Hid.in (by rw [← hwx]; exact below_alloc _ _)
  have e0 : wx.cell? ⟨w.heap.size, 0, none⟩ = some (.int .i64 5) := by rw [← hwx]; exact blk_cell (heap_alloc_new _ _) rfl
  have e1 : wx.cell? ⟨w.heap.size, 1, none⟩ = some (.int .i64 (m : Int)) := by rw [← hwx]; exact blk_cell (heap_alloc_new _ _) rfl
  have e2 : wx.cell? ⟨w.heap.size, 2, none⟩ = some (.int .i64 a) := by rw [← hwx]; exact blk_cell (heap_alloc_new _ _) rfl
  have e3 : wx.cell? ⟨w.heap.size, 3, none⟩ = some (.int .u32 v) := by rw [← hwx]; exact blk_cell (heap_alloc_new _ _) rfl
  have e4 : wx.cell? ⟨w.heap.size, 4, none⟩ = some (.int .u32 n) := by rw [← hwx]; exact blk_cell (heap_alloc_new _ _) rfl
  have e5 : wx.cell? ⟨w.heap.size, 5, none⟩ = some (.bool d) := by rw [← hwx]; exact blk_cell (heap_alloc_new _ _) rfl
  have hws : w.heap.size < wx.heap.size := lt_cell e0
  clear hwx
  go_quiet (fail)
  go_wp2
  go_quiet (fail)
  go_wp2
  go_quiet (fail)
  by_cases hL0 : L = []
  · have h := HH.out
    simp only [refL, show ¬ ((5 : Int) = 1) by decide, show ¬ ((5 : Int) = 3) by decide, show ¬ ((5 : Int) = 4) by decide, if_false, if_true, if_neg (fun hn : L ≠ [] => hn hL0)] at h
    subst h
    obtain rfl : nL = 0 := by rw [← HNL.out, hL0]; rfl
    clear hL0
    go_wp2
    go_ret
    exact ⟨rfl, S, by simpa [doA, doM] using (RTurned.same HT.out (drewN_below (drewN_below (drewN_below HB.out _) _) _)).mono (Nat.le_succ _)⟩
  · have h := HH.out
    simp only [refL, show ¬ ((5 : Int) = 1) by decide, show ¬ ((5 : Int) = 3) by decide, show ¬ ((5 : Int) = 4) by decide, if_false, if_true, if_pos hL0] at h
    subst h
    have hn0 : 0 < nL := by rw [← HNL.out]; exact List.length_pos_iff.2 hL0
    have i3 : (0 : Int) < (nL : Int) := by omega
    clear hL0
    go_wp2
    go_ret
    exact ⟨rfl, S, by simpa using (RTurned.same HT.out (drewN_below (drewN_below (drewN_below HB.out _) _) _)).mono (Nat.le_succ _)⟩
end Go.Proofs.YtncgjclehplfeaaDoor

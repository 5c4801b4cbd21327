/- DERIVED of the program: assentref1.RightOp and PutOps, and the law's own right, by their contracts. Own work. (written by src/PgG.mk.py) -/
import Derived.Test.YtbanihjjeicdaaaDoorPgEmpty
namespace Go.Proofs.YtbanihjjeicdaaaDoor
open Go.RowKit Go.Extern.Stop Go.Stop Go.Extern

set_option maxRecDepth 100000 in
theorem eqIn_opd (d : Nat) (x y z u x' y' z' u' : Int) (h : ¬ (x = x' ∧ y = y' ∧ z = z' ∧ u = u')) (w : World) : (Op.equalIn (d + 5) 29 (.agg #[.int .i64 x, .int .i64 y, .int .u32 z, .int .u32 u]) (.agg #[.int .i64 x', .int .i64 y', .int .u32 z', .int .u32 u'])).run Tryd.prog w = .ok false w := by
  rw [run_equalIn_struct w (d + 4) 29 _ _ Tryd.underlying29 (by kernel_rfl)]
  by_cases h1 : x = x'
  · by_cases h2 : y = y'
    · by_cases h3 : z = z'
      · by_cases h4 : u = u'
        · exact absurd ⟨h1, h2, h3, h4⟩ h
        · simp [Op.eqFields, go_sem, h1, h2, h3, h4]
      · simp [Op.eqFields, go_sem, h1, h2, h3]
    · simp [Op.eqFields, go_sem, h1, h2]
  · simp [Op.eqFields, go_sem, h1]
theorem eq_opd (x y z u x' y' z' u' : Int) (h : ¬ (x = x' ∧ y = y' ∧ z = z' ∧ u = u')) (w : World) : (binOp .eql 29 (.agg #[.int .i64 x, .int .i64 y, .int .u32 z, .int .u32 u]) (.agg #[.int .i64 x', .int .i64 y', .int .u32 z', .int .u32 u'])).run Tryd.prog w = .ok (.bool false) w := by
  have h := eqIn_opd 9995 x y z u x' y' z' u' h w
  simp only [binOp]
  simp [Op.equal, Op.maxDepth, h]

set_option maxRecDepth 20000 in
theorem rright_3 (a v o n : Int) (w : World) : Calls Tryd.prog 17 #[.agg #[.int .i64 3, .int .i64 a, .int .u32 v, .int .u32 o], .int .i64 n] w fun r w' => r = .returned (.bool (rt (3, a, v, o) n)) ∧ Below w.heap.size w w' := by
  have heq := eq_op 3 a v o
  by_cases ha : a < 0
  · go_enter Tryd.func17, Tryd.ntmps17
    go_wp2
    go_ret
    exact ⟨ret_bool (rt_no _ _ (by simp <;> omega)).symm, (below_alloc _ _).alloc (by simp) _⟩
  by_cases hb : n ≤ a
  · go_enter Tryd.func17, Tryd.ntmps17
    go_wp2
    go_ret
    exact ⟨ret_bool (rt_no _ _ (by simp <;> omega)).symm, (below_alloc _ _).alloc (by simp) _⟩
  by_cases hn : 128 < n
  · go_enter Tryd.func17, Tryd.ntmps17
    go_wp2
    go_ret
    exact ⟨ret_bool ((decide_eq_false (by omega)).trans (rt_no _ _ (by simp <;> omega)).symm), (below_alloc _ _).alloc (by simp) _⟩
  go_enter Tryd.func17, Tryd.ntmps17
  go_wp2
  go_ret
  exact ⟨ret_bool ((rt_iff _ _).2 (by simp <;> omega)).symm, (below_alloc _ _).alloc (by simp) _⟩

set_option maxRecDepth 20000 in
theorem rright_2 (a v o n : Int) (w : World) : Calls Tryd.prog 17 #[.agg #[.int .i64 2, .int .i64 a, .int .u32 v, .int .u32 o], .int .i64 n] w fun r w' => r = .returned (.bool (rt (2, a, v, o) n)) ∧ Below w.heap.size w w' := by
  by_cases hz : o = 0
  rotate_left
  · have heq := eq_opd 2 a v o 2 a v 0 (by omega)
    go_enter Tryd.func17, Tryd.ntmps17
    go_wp2
    go_ret
    exact ⟨ret_bool (rt_no _ _ (by simp <;> omega)).symm, (below_alloc _ _).alloc (by simp) _⟩
  obtain rfl := hz
  have heq := eq_op 2 a v 0
  by_cases ha : a < 0
  · go_enter Tryd.func17, Tryd.ntmps17
    go_wp2
    go_ret
    exact ⟨ret_bool (rt_no _ _ (by simp <;> omega)).symm, (below_alloc _ _).alloc (by simp) _⟩
  by_cases hb : n ≤ a
  · go_enter Tryd.func17, Tryd.ntmps17
    go_wp2
    go_ret
    exact ⟨ret_bool (rt_no _ _ (by simp <;> omega)).symm, (below_alloc _ _).alloc (by simp) _⟩
  by_cases hn : 128 < n
  · go_enter Tryd.func17, Tryd.ntmps17
    go_wp2
    go_ret
    exact ⟨ret_bool ((decide_eq_false (by omega)).trans (rt_no _ _ (by simp <;> omega)).symm), (below_alloc _ _).alloc (by simp) _⟩
  go_enter Tryd.func17, Tryd.ntmps17
  go_wp2
  go_ret
  exact ⟨ret_bool ((rt_iff _ _).2 (by simp <;> omega)).symm, (below_alloc _ _).alloc (by simp) _⟩

set_option maxRecDepth 20000 in
theorem rright_1 (a v o n : Int) (w : World) : Calls Tryd.prog 17 #[.agg #[.int .i64 1, .int .i64 a, .int .u32 v, .int .u32 o], .int .i64 n] w fun r w' => r = .returned (.bool (rt (1, a, v, o) n)) ∧ Below w.heap.size w w' := by
  by_cases hz : v = 0 ∧ o = 0
  rotate_left
  · have heq := eq_opd 1 a v o 1 a 0 0 (by omega)
    go_enter Tryd.func17, Tryd.ntmps17
    go_wp2
    go_ret
    exact ⟨ret_bool (rt_no _ _ (by simp <;> omega)).symm, (below_alloc _ _).alloc (by simp) _⟩
  obtain ⟨rfl, rfl⟩ := hz
  have heq := eq_op 1 a 0 0
  by_cases ha : a < 0
  · go_enter Tryd.func17, Tryd.ntmps17
    go_wp2
    go_ret
    exact ⟨ret_bool (rt_no _ _ (by simp <;> omega)).symm, (below_alloc _ _).alloc (by simp) _⟩
  by_cases hb : n ≤ a
  · go_enter Tryd.func17, Tryd.ntmps17
    go_wp2
    go_ret
    exact ⟨ret_bool (rt_no _ _ (by simp <;> omega)).symm, (below_alloc _ _).alloc (by simp) _⟩
  by_cases hn : 128 < n
  · go_enter Tryd.func17, Tryd.ntmps17
    go_wp2
    go_ret
    exact ⟨ret_bool ((decide_eq_false (by omega)).trans (rt_no _ _ (by simp <;> omega)).symm), (below_alloc _ _).alloc (by simp) _⟩
  go_enter Tryd.func17, Tryd.ntmps17
  go_wp2
  go_ret
  exact ⟨ret_bool ((rt_iff _ _).2 (by simp <;> omega)).symm, (below_alloc _ _).alloc (by simp) _⟩

set_option maxRecDepth 20000 in
theorem rright_4 (a v o n : Int) (w : World) : Calls Tryd.prog 17 #[.agg #[.int .i64 4, .int .i64 a, .int .u32 v, .int .u32 o], .int .i64 n] w fun r w' => r = .returned (.bool (rt (4, a, v, o) n)) ∧ Below w.heap.size w w' := by
  by_cases hz : a = 0 ∧ v = 0 ∧ o = 0
  rotate_left
  · have heq := eq_opd 4 a v o 4 0 0 0 (by omega)
    go_enter Tryd.func17, Tryd.ntmps17
    go_wp2
    go_ret
    exact ⟨ret_bool (rt_no _ _ (by simp <;> omega)).symm, (below_alloc _ _).alloc (by simp) _⟩
  obtain ⟨rfl, rfl, rfl⟩ := hz
  have heq := eq_op 4 0 0 0
  by_cases hn : 128 < n
  · go_enter Tryd.func17, Tryd.ntmps17
    go_wp2
    go_ret
    exact ⟨ret_bool ((decide_eq_false (by omega)).trans (rt_no _ _ (by simp <;> omega)).symm), (below_alloc _ _).alloc (by simp) _⟩
  go_enter Tryd.func17, Tryd.ntmps17
  go_wp2
  go_ret
  exact ⟨ret_bool ((rt_iff _ _).2 (by simp <;> omega)).symm, (below_alloc _ _).alloc (by simp) _⟩

set_option maxRecDepth 20000 in
theorem rright_no (k a v o n : Int) (w : World) (h1 : (k == 1) = false) (h2 : (k == 2) = false) (h3 : (k == 3) = false) (h4 : (k == 4) = false) : Calls Tryd.prog 17 #[.agg #[.int .i64 k, .int .i64 a, .int .u32 v, .int .u32 o], .int .i64 n] w fun r w' => r = .returned (.bool (rt (k, a, v, o) n)) ∧ Below w.heap.size w w' := by
  go_enter Tryd.func17, Tryd.ntmps17
  go_wp2
  go_ret
  exact ⟨ret_bool (rt_no _ _ (by simp at h1 h2 h3 h4; simp only; omega)).symm, (below_alloc _ _).alloc (by simp) _⟩

/-- assentref1.RightOp, of whatever. -/
theorem rright_any (k a v o n : Int) (w : World) : Calls Tryd.prog 17 #[.agg #[.int .i64 k, .int .i64 a, .int .u32 v, .int .u32 o], .int .i64 n] w fun r w' => r = .returned (.bool (rt (k, a, v, o) n)) ∧ Below w.heap.size w w' := by
  by_cases h1 : k = 1
  · subst h1; exact rright_1 a v o n w
  by_cases h2 : k = 2
  · subst h2; exact rright_2 a v o n w
  by_cases h3 : k = 3
  · subst h3; exact rright_3 a v o n w
  by_cases h4 : k = 4
  · subst h4; exact rright_4 a v o n w
  exact rright_no k a v o n w (by simp [h1]) (by simp [h2]) (by simp [h3]) (by simp [h4])

/-- How many are right, from the first on. -/
def frt (L : List O4) (n : Int) : Nat := (L.takeWhile fun x => rt x n).length
theorem frt_le (L : List O4) (n : Int) : frt L n ≤ L.length := (List.takeWhile_prefix _).length_le
theorem frt_all : ∀ {L : List O4} {n : Int}, (∀ x ∈ L, rt x n = true) → frt L n = L.length
  | [], _, _ => rfl
  | x :: r, n, h => by
    unfold frt
    rw [List.takeWhile_cons, if_pos (h x (List.mem_cons_self ..)), List.length_cons]
    have := frt_all (L := r) (n := n) (fun y hy => h y (List.mem_cons_of_mem _ hy))
    unfold frt at this
    rw [this, List.length_cons]
theorem frt_at : ∀ {L : List O4} {n : Int} {i : Nat} {x : O4}, (∀ y ∈ L.take i, rt y n = true) → L[i]? = some x → rt x n = false → frt L n = i
  | [], _, _, _, _, h, _ => by simp at h
  | y :: r, n, 0, x, _, h, hf => by
    simp at h
    subst h
    unfold frt
    rw [List.takeWhile_cons, if_neg (by simp [hf])]
    rfl
  | y :: r, n, i + 1, x, ha, h, hf => by
    unfold frt
    rw [List.takeWhile_cons, if_pos (ha y (by simp)), List.length_cons]
    have := frt_at (L := r) (n := n) (i := i) (x := x) (fun z hz => ha z (by simp [hz])) (by simpa using h) hf
    unfold frt at this
    rw [this]

set_option maxHeartbeats 1600000 in
set_option maxRecDepth 20000 in
theorem lright_any (ao : Option Addr) (N cap : Nat) (L : List O4) (n : Int) (w : World) (hN : N = L.length) (hN80 : N ≤ 80) (hL : RowO w ao cap L) :
    Calls Tryd.prog 19 #[.slice ao N cap, .int .i64 n] w fun r w' => r = .returned (.int .i64 (frt L n : Nat)) ∧ Below w.heap.size w w' := by
  have HL := Hid.in hL
  have HN := Hid.in hN
  clear hL hN
  go_enter Tryd.func19, Tryd.ntmps19
  go_wp2
  go_loopw [5] (fun i wr => ∃ (j : Nat), j ≤ N ∧ i = .int .i64 (j : Int) ∧ (∀ y ∈ L.take j, rt y n = true) ∧ Below w.heap.size w wr) (fun i _ => N - (intOf i).toNat)
  case atStart => exact ⟨0, Nat.zero_le _, rfl, by simp, Below.refl _ _⟩
  case round =>
    obtain ⟨j, hj, rfl, hR, hb⟩ := hrel
    have HR := Hid.in hR
    have HB := Hid.in hb
    clear hR hb
    by_cases hlt : j < N
    · obtain ⟨b, o, k, a, v, d, rfl, x0, x1, x2, x3, hj2⟩ := (HL.out.step HB.out).oat j (by have := HN.out; omega)
      have HJ := Hid.in hj2
      clear hj2
      have i1 : (j : Int) < (N : Int) := by omega
      go_wp2_with fail
      refine (rright_any k a v d n wr).mono ?_
      by_cases hrt : rt (k, a, v, d) n = true
      · rw [hrt]
        have HRT := Hid.in hrt
        clear hrt
        rintro r w2 ⟨rfl, hb2⟩
        have HB2 := Hid.in (bstep HB.out (Nat.le_refl _) hb2)
        clear hb2 x0 x1 x2 x3
        go_wp2
        go_roundw
        case rel =>
          refine ⟨j + 1, by omega, by go_num, fun x hx => ?_, HB2.out⟩
          have hjl : j < L.length := by have := HN.out; omega
          have hg : L[j] = (k, a, v, d) := by have h := HJ.out; rw [List.getElem?_eq_getElem hjl] at h; exact Option.some.inj h
          rw [List.take_succ_eq_append_getElem hjl] at hx
          rcases List.mem_append.1 hx with hx | hx
          · exact HR.out x hx
          · rw [List.mem_singleton.1 hx, hg]; exact HRT.out
        case measure => simp [intOf]; omega
      · have hrf : rt (k, a, v, d) n = false := by simpa using hrt
        rw [hrf]
        have HF := Hid.in (frt_at HR.out HJ.out hrf)
        clear hrt hrf
        rintro r w2 ⟨rfl, hb2⟩
        have HB2 := Hid.in (bstep HB.out (Nat.le_refl _) hb2)
        clear hb2 x0 x1 x2 x3
        go_wp2
        go_ret
        exact ⟨by rw [HF.out]; rfl, HB2.out⟩
    · have HF : Hid (frt L n = j) := Hid.in (by
        have h := HR.out
        rw [List.take_of_length_le (by have := HN.out; omega)] at h
        rw [frt_all h]; have := HN.out; omega)
      go_wp2
      go_ret
      exact ⟨by rw [HF.out]; rfl, HB.out⟩

theorem rnum_l (ao : Option Addr) (N cap : Nat) (bs : List Nat) (n : Int) (w : World) (hN : N = bs.length) (hL : Lie w ao cap bs) (hlen : bs.length ≤ 140737488355000) (h0 : -9223372036854775808 ≤ n) (h1 : n ≤ 9223372036854775807) :
    Calls Tryd.prog 35 #[.slice ao N cap, .int .i64 n] w fun r w' => ∃ ao' M c', r = .returned (.slice ao' M c') ∧ M = (bs ++ enc (zz n)).length ∧ Lie w' ao' c' (bs ++ enc (zz n)) ∧ Below w.heap.size w w' := by
  subst hN
  refine (refNum_any ao cap bs n w hL hlen h0 h1).mono ?_
  rintro r w' ⟨ao', c, rfl, hO, hb⟩
  exact ⟨ao', _, c, rfl, by rw [List.length_append], hO.lie, hb⟩

set_option maxHeartbeats 3200000 in
set_option maxRecDepth 20000 in
theorem putOps_ok (ao : Option Addr) (N cap : Nat) (L : List O4) (n : Int) (w : World) (hN : N = L.length) (hN64 : N ≤ 64) (hL : RowO w ao cap L) (hx : ∀ x ∈ L, rt x n = true ∧ O32 x) :
    Calls Tryd.prog 20 #[.slice ao N cap, .int .i64 n] w fun r w' => ∃ a' M c', r = .returned (.slice a' M c') ∧ M = (encP L).length ∧ Lie w' a' c' (encP L) ∧ Below w.heap.size w w' := by
  have HL := Hid.in hL
  have HX := Hid.in hx
  have HN := Hid.in hN
  clear hL hx hN
  go_enter Tryd.func20, Tryd.ntmps20
  go_wp2_with fail
  refine (rnum_l none 0 0 [] (N : Int) w rfl (Lie.nil _) (by decide) (by omega) (by omega)).mono ?_
  rintro r w1 ⟨a1, M1, c1, rfl, hM1, hL1, hb1⟩
  rw [List.nil_append] at hM1 hL1
  have HM1 := Hid.in hM1
  have HL1 := Hid.in hL1
  have HB1 := Hid.in hb1
  clear hM1 hL1 hb1
  go_wp2
  go_loopw [5, 16] (fun b i wr => ∃ (j : Nat) (ab : Option Addr) (M c : Nat), j ≤ N ∧ i = .int .i64 (j : Int) ∧ b = .slice ab M c ∧ M = (enc (zz (N : Int)) ++ encL (L.take j)).length ∧ Lie wr ab c (enc (zz (N : Int)) ++ encL (L.take j)) ∧ Below w.heap.size w wr) (fun _ i _ => N - (intOf i).toNat)
  case atStart => exact ⟨0, a1, M1, c1, Nat.zero_le _, rfl, rfl, by rw [List.take_zero, encL_nil, List.append_nil]; exact HM1.out, by rw [List.take_zero, encL_nil, List.append_nil]; exact HL1.out, HB1.out⟩
  case round =>
    obtain ⟨j, ab, M, c, hj, rfl, rfl, hM, hLb, hb⟩ := hrel
    have HM := Hid.in hM
    have HLb := Hid.in hLb
    have HB := Hid.in hb
    clear hM hLb hb
    by_cases hlt : j < N
    · obtain ⟨b, o, k, a, v, d, rfl, x0, x1, x2, x3, hj2⟩ := (HL.out.step HB.out).oat j (by have := HN.out; omega)
      have HJ := Hid.in hj2
      have HRX := Hid.in (HX.out _ (List.mem_of_getElem? hj2))
      clear hj2
      have HLEN : Hid ((enc (zz (N : Int)) ++ encL (L.take j)).length ≤ 3000) := Hid.in (by
        have h1 := num_len (N : Int) (by omega) (by omega)
        have h2 := encL_len (n := n) (L.take j) (fun x hx => HX.out x (List.mem_of_mem_take hx))
        rw [List.length_take] at h2
        rw [List.length_append]; omega)
      have HNX : Hid ((enc (zz (N : Int)) ++ encL (L.take j)) ++ encO (k, a, v, d) = enc (zz (N : Int)) ++ encL (L.take (j + 1))) := Hid.in (by
        have hjl : j < L.length := by have := HN.out; omega
        have hg : L[j] = (k, a, v, d) := by have h := HJ.out; rw [List.getElem?_eq_getElem hjl] at h; exact Option.some.inj h
        rw [encL_snoc L j hjl, hg, List.append_assoc])
      obtain ⟨P, hP⟩ : ∃ P, enc (zz (N : Int)) ++ encL (L.take j) = P := ⟨_, rfl⟩
      rw [hP] at HM HLb HLEN HNX
      clear hP
      go_wp2_with fail
      refine (rright_any k a v d n _).mono ?_
      rw [HRX.out.1]
      rintro r w2 ⟨rfl, hb2⟩
      have HO2 : Hid (w2.heap[wr.heap.size]? = some (.cells #[.int .i64 k, .int .i64 a, .int .u32 v, .int .u32 d] 29 (0, 0))) := Hid.in (blk_step (heap_alloc_new _ _) hb2)
      have HB2 := Hid.in (bstep HB.out (by have := HB.out.size; omega) (bstep (below_alloc wr _) (Nat.le_refl _) hb2))
      have HL2 := Hid.in (HLb.out.step (bstep (below_alloc wr _) (Nat.le_refl _) hb2))
      have HM2 := HM
      clear hb2 x0 x1 x2 x3 HLb HB HM
      obtain ⟨g1, g2, g3, g4⟩ := HRX.out.2
      obtain ⟨hn, h⟩ := (rt_iff _ n).1 HRX.out.1
      simp only at g1 g2 g3 g4 h
      clear HRX HJ
      rcases h with h | h | h | h
      · obtain ⟨rfl, _⟩ := h
        have e0 := num_len 4 (by decide) (by decide)
        have hle := HLEN.out
        have z0 : w2.cell? ⟨wr.heap.size, 0, none⟩ = some (.int .i64 4) := blk_cell HO2.out rfl
        have z1 : w2.cell? ⟨wr.heap.size, 1, none⟩ = some (.int .i64 a) := blk_cell HO2.out rfl
        have z2 : w2.cell? ⟨wr.heap.size, 2, none⟩ = some (.int .u32 v) := blk_cell HO2.out rfl
        have z3 : w2.cell? ⟨wr.heap.size, 3, none⟩ = some (.int .u32 d) := blk_cell HO2.out rfl
        go_wp2_with fail
        refine (rnum_l _ _ _ (P) 4 _ HM2.out HL2.out (by (try simp only [List.length_append]); omega) (by omega) (by omega)).mono ?_
        rintro r w3 ⟨ao3, M3, c3, rfl, hM, hL, hb⟩
        have HO3 := Hid.in (blk_step HO2.out hb)
        have HB3 := Hid.in (bstep HB2.out (Nat.le_refl _) hb)
        have HM3 := Hid.in hM
        have HL3 := Hid.in hL
        clear hM hL hb z0 z1 z2 z3 HO2 HB2 HM2 HL2
        have z0 : w3.cell? ⟨wr.heap.size, 0, none⟩ = some (.int .i64 4) := blk_cell HO3.out rfl
        have z1 : w3.cell? ⟨wr.heap.size, 1, none⟩ = some (.int .i64 a) := blk_cell HO3.out rfl
        have z2 : w3.cell? ⟨wr.heap.size, 2, none⟩ = some (.int .u32 v) := blk_cell HO3.out rfl
        have z3 : w3.cell? ⟨wr.heap.size, 3, none⟩ = some (.int .u32 d) := blk_cell HO3.out rfl
        have HEQ : Hid ((P) ++ enc (zz 4) = P ++ encO (4, a, v, d)) := Hid.in (by rw [encO4])
        go_wp2
        go_roundw
        case rel => exact ⟨j + 1, ao3, M3, c3, by omega, by go_num, rfl, by rw [← HNX.out, ← HEQ.out]; exact HM3.out, by rw [← HNX.out, ← HEQ.out]; exact HL3.out, HB3.out⟩
        case measure => simp [intOf]; omega
      · obtain ⟨rfl, a0, a1, _⟩ := h
        have e0 := num_len 1 (by decide) (by decide)
        have ea := num_len a (by omega) (by omega)
        have hle := HLEN.out
        have z0 : w2.cell? ⟨wr.heap.size, 0, none⟩ = some (.int .i64 1) := blk_cell HO2.out rfl
        have z1 : w2.cell? ⟨wr.heap.size, 1, none⟩ = some (.int .i64 a) := blk_cell HO2.out rfl
        have z2 : w2.cell? ⟨wr.heap.size, 2, none⟩ = some (.int .u32 v) := blk_cell HO2.out rfl
        have z3 : w2.cell? ⟨wr.heap.size, 3, none⟩ = some (.int .u32 d) := blk_cell HO2.out rfl
        go_wp2_with fail
        refine (rnum_l _ _ _ (P) 1 _ HM2.out HL2.out (by (try simp only [List.length_append]); omega) (by omega) (by omega)).mono ?_
        rintro r w3 ⟨ao3, M3, c3, rfl, hM, hL, hb⟩
        have HO3 := Hid.in (blk_step HO2.out hb)
        have HB3 := Hid.in (bstep HB2.out (Nat.le_refl _) hb)
        have HM3 := Hid.in hM
        have HL3 := Hid.in hL
        clear hM hL hb z0 z1 z2 z3 HO2 HB2 HM2 HL2
        have z0 : w3.cell? ⟨wr.heap.size, 0, none⟩ = some (.int .i64 1) := blk_cell HO3.out rfl
        have z1 : w3.cell? ⟨wr.heap.size, 1, none⟩ = some (.int .i64 a) := blk_cell HO3.out rfl
        have z2 : w3.cell? ⟨wr.heap.size, 2, none⟩ = some (.int .u32 v) := blk_cell HO3.out rfl
        have z3 : w3.cell? ⟨wr.heap.size, 3, none⟩ = some (.int .u32 d) := blk_cell HO3.out rfl
        go_wp2_with fail
        refine (rnum_l _ _ _ ((P) ++ enc (zz 1)) a _ HM3.out HL3.out (by (try simp only [List.length_append]); omega) (by omega) (by omega)).mono ?_
        rintro r w4 ⟨ao4, M4, c4, rfl, hM, hL, hb⟩
        have HO4 := Hid.in (blk_step HO3.out hb)
        have HB4 := Hid.in (bstep HB3.out (Nat.le_refl _) hb)
        have HM4 := Hid.in hM
        have HL4 := Hid.in hL
        clear hM hL hb z0 z1 z2 z3 HO3 HB3 HM3 HL3
        have z0 : w4.cell? ⟨wr.heap.size, 0, none⟩ = some (.int .i64 1) := blk_cell HO4.out rfl
        have z1 : w4.cell? ⟨wr.heap.size, 1, none⟩ = some (.int .i64 a) := blk_cell HO4.out rfl
        have z2 : w4.cell? ⟨wr.heap.size, 2, none⟩ = some (.int .u32 v) := blk_cell HO4.out rfl
        have z3 : w4.cell? ⟨wr.heap.size, 3, none⟩ = some (.int .u32 d) := blk_cell HO4.out rfl
        have HEQ : Hid (((P) ++ enc (zz 1)) ++ enc (zz a) = P ++ encO (1, a, v, d)) := Hid.in (by rw [encO1]; simp)
        go_wp2
        go_roundw
        case rel => exact ⟨j + 1, ao4, M4, c4, by omega, by go_num, rfl, by rw [← HNX.out, ← HEQ.out]; exact HM4.out, by rw [← HNX.out, ← HEQ.out]; exact HL4.out, HB4.out⟩
        case measure => simp [intOf]; omega
      · obtain ⟨rfl, a0, a1, _⟩ := h
        have e0 := num_len 2 (by decide) (by decide)
        have ea := num_len a (by omega) (by omega)
        have ev := num_len v (by omega) (by omega)
        have hle := HLEN.out
        have z0 : w2.cell? ⟨wr.heap.size, 0, none⟩ = some (.int .i64 2) := blk_cell HO2.out rfl
        have z1 : w2.cell? ⟨wr.heap.size, 1, none⟩ = some (.int .i64 a) := blk_cell HO2.out rfl
        have z2 : w2.cell? ⟨wr.heap.size, 2, none⟩ = some (.int .u32 v) := blk_cell HO2.out rfl
        have z3 : w2.cell? ⟨wr.heap.size, 3, none⟩ = some (.int .u32 d) := blk_cell HO2.out rfl
        go_wp2_with fail
        refine (rnum_l _ _ _ (P) 2 _ HM2.out HL2.out (by (try simp only [List.length_append]); omega) (by omega) (by omega)).mono ?_
        rintro r w3 ⟨ao3, M3, c3, rfl, hM, hL, hb⟩
        have HO3 := Hid.in (blk_step HO2.out hb)
        have HB3 := Hid.in (bstep HB2.out (Nat.le_refl _) hb)
        have HM3 := Hid.in hM
        have HL3 := Hid.in hL
        clear hM hL hb z0 z1 z2 z3 HO2 HB2 HM2 HL2
        have z0 : w3.cell? ⟨wr.heap.size, 0, none⟩ = some (.int .i64 2) := blk_cell HO3.out rfl
        have z1 : w3.cell? ⟨wr.heap.size, 1, none⟩ = some (.int .i64 a) := blk_cell HO3.out rfl
        have z2 : w3.cell? ⟨wr.heap.size, 2, none⟩ = some (.int .u32 v) := blk_cell HO3.out rfl
        have z3 : w3.cell? ⟨wr.heap.size, 3, none⟩ = some (.int .u32 d) := blk_cell HO3.out rfl
        go_wp2_with fail
        refine (rnum_l _ _ _ ((P) ++ enc (zz 2)) a _ HM3.out HL3.out (by (try simp only [List.length_append]); omega) (by omega) (by omega)).mono ?_
        rintro r w4 ⟨ao4, M4, c4, rfl, hM, hL, hb⟩
        have HO4 := Hid.in (blk_step HO3.out hb)
        have HB4 := Hid.in (bstep HB3.out (Nat.le_refl _) hb)
        have HM4 := Hid.in hM
        have HL4 := Hid.in hL
        clear hM hL hb z0 z1 z2 z3 HO3 HB3 HM3 HL3
        have z0 : w4.cell? ⟨wr.heap.size, 0, none⟩ = some (.int .i64 2) := blk_cell HO4.out rfl
        have z1 : w4.cell? ⟨wr.heap.size, 1, none⟩ = some (.int .i64 a) := blk_cell HO4.out rfl
        have z2 : w4.cell? ⟨wr.heap.size, 2, none⟩ = some (.int .u32 v) := blk_cell HO4.out rfl
        have z3 : w4.cell? ⟨wr.heap.size, 3, none⟩ = some (.int .u32 d) := blk_cell HO4.out rfl
        go_wp2_with fail
        refine (rnum_l _ _ _ (((P) ++ enc (zz 2)) ++ enc (zz a)) v _ HM4.out HL4.out (by (try simp only [List.length_append]); omega) (by omega) (by omega)).mono ?_
        rintro r w5 ⟨ao5, M5, c5, rfl, hM, hL, hb⟩
        have HO5 := Hid.in (blk_step HO4.out hb)
        have HB5 := Hid.in (bstep HB4.out (Nat.le_refl _) hb)
        have HM5 := Hid.in hM
        have HL5 := Hid.in hL
        clear hM hL hb z0 z1 z2 z3 HO4 HB4 HM4 HL4
        have z0 : w5.cell? ⟨wr.heap.size, 0, none⟩ = some (.int .i64 2) := blk_cell HO5.out rfl
        have z1 : w5.cell? ⟨wr.heap.size, 1, none⟩ = some (.int .i64 a) := blk_cell HO5.out rfl
        have z2 : w5.cell? ⟨wr.heap.size, 2, none⟩ = some (.int .u32 v) := blk_cell HO5.out rfl
        have z3 : w5.cell? ⟨wr.heap.size, 3, none⟩ = some (.int .u32 d) := blk_cell HO5.out rfl
        have HEQ : Hid ((((P) ++ enc (zz 2)) ++ enc (zz a)) ++ enc (zz v) = P ++ encO (2, a, v, d)) := Hid.in (by rw [encO2]; simp)
        go_wp2
        go_roundw
        case rel => exact ⟨j + 1, ao5, M5, c5, by omega, by go_num, rfl, by rw [← HNX.out, ← HEQ.out]; exact HM5.out, by rw [← HNX.out, ← HEQ.out]; exact HL5.out, HB5.out⟩
        case measure => simp [intOf]; omega
      · obtain ⟨rfl, a0, a1⟩ := h
        have e0 := num_len 3 (by decide) (by decide)
        have ea := num_len a (by omega) (by omega)
        have ev := num_len v (by omega) (by omega)
        have ed := num_len d (by omega) (by omega)
        have hle := HLEN.out
        have z0 : w2.cell? ⟨wr.heap.size, 0, none⟩ = some (.int .i64 3) := blk_cell HO2.out rfl
        have z1 : w2.cell? ⟨wr.heap.size, 1, none⟩ = some (.int .i64 a) := blk_cell HO2.out rfl
        have z2 : w2.cell? ⟨wr.heap.size, 2, none⟩ = some (.int .u32 v) := blk_cell HO2.out rfl
        have z3 : w2.cell? ⟨wr.heap.size, 3, none⟩ = some (.int .u32 d) := blk_cell HO2.out rfl
        go_wp2_with fail
        refine (rnum_l _ _ _ (P) 3 _ HM2.out HL2.out (by (try simp only [List.length_append]); omega) (by omega) (by omega)).mono ?_
        rintro r w3 ⟨ao3, M3, c3, rfl, hM, hL, hb⟩
        have HO3 := Hid.in (blk_step HO2.out hb)
        have HB3 := Hid.in (bstep HB2.out (Nat.le_refl _) hb)
        have HM3 := Hid.in hM
        have HL3 := Hid.in hL
        clear hM hL hb z0 z1 z2 z3 HO2 HB2 HM2 HL2
        have z0 : w3.cell? ⟨wr.heap.size, 0, none⟩ = some (.int .i64 3) := blk_cell HO3.out rfl
        have z1 : w3.cell? ⟨wr.heap.size, 1, none⟩ = some (.int .i64 a) := blk_cell HO3.out rfl
        have z2 : w3.cell? ⟨wr.heap.size, 2, none⟩ = some (.int .u32 v) := blk_cell HO3.out rfl
        have z3 : w3.cell? ⟨wr.heap.size, 3, none⟩ = some (.int .u32 d) := blk_cell HO3.out rfl
        go_wp2_with fail
        refine (rnum_l _ _ _ ((P) ++ enc (zz 3)) a _ HM3.out HL3.out (by (try simp only [List.length_append]); omega) (by omega) (by omega)).mono ?_
        rintro r w4 ⟨ao4, M4, c4, rfl, hM, hL, hb⟩
        have HO4 := Hid.in (blk_step HO3.out hb)
        have HB4 := Hid.in (bstep HB3.out (Nat.le_refl _) hb)
        have HM4 := Hid.in hM
        have HL4 := Hid.in hL
        clear hM hL hb z0 z1 z2 z3 HO3 HB3 HM3 HL3
        have z0 : w4.cell? ⟨wr.heap.size, 0, none⟩ = some (.int .i64 3) := blk_cell HO4.out rfl
        have z1 : w4.cell? ⟨wr.heap.size, 1, none⟩ = some (.int .i64 a) := blk_cell HO4.out rfl
        have z2 : w4.cell? ⟨wr.heap.size, 2, none⟩ = some (.int .u32 v) := blk_cell HO4.out rfl
        have z3 : w4.cell? ⟨wr.heap.size, 3, none⟩ = some (.int .u32 d) := blk_cell HO4.out rfl
        go_wp2_with fail
        refine (rnum_l _ _ _ (((P) ++ enc (zz 3)) ++ enc (zz a)) v _ HM4.out HL4.out (by (try simp only [List.length_append]); omega) (by omega) (by omega)).mono ?_
        rintro r w5 ⟨ao5, M5, c5, rfl, hM, hL, hb⟩
        have HO5 := Hid.in (blk_step HO4.out hb)
        have HB5 := Hid.in (bstep HB4.out (Nat.le_refl _) hb)
        have HM5 := Hid.in hM
        have HL5 := Hid.in hL
        clear hM hL hb z0 z1 z2 z3 HO4 HB4 HM4 HL4
        have z0 : w5.cell? ⟨wr.heap.size, 0, none⟩ = some (.int .i64 3) := blk_cell HO5.out rfl
        have z1 : w5.cell? ⟨wr.heap.size, 1, none⟩ = some (.int .i64 a) := blk_cell HO5.out rfl
        have z2 : w5.cell? ⟨wr.heap.size, 2, none⟩ = some (.int .u32 v) := blk_cell HO5.out rfl
        have z3 : w5.cell? ⟨wr.heap.size, 3, none⟩ = some (.int .u32 d) := blk_cell HO5.out rfl
        go_wp2_with fail
        refine (rnum_l _ _ _ ((((P) ++ enc (zz 3)) ++ enc (zz a)) ++ enc (zz v)) d _ HM5.out HL5.out (by (try simp only [List.length_append]); omega) (by omega) (by omega)).mono ?_
        rintro r w6 ⟨ao6, M6, c6, rfl, hM, hL, hb⟩
        have HO6 := Hid.in (blk_step HO5.out hb)
        have HB6 := Hid.in (bstep HB5.out (Nat.le_refl _) hb)
        have HM6 := Hid.in hM
        have HL6 := Hid.in hL
        clear hM hL hb z0 z1 z2 z3 HO5 HB5 HM5 HL5
        have z0 : w6.cell? ⟨wr.heap.size, 0, none⟩ = some (.int .i64 3) := blk_cell HO6.out rfl
        have z1 : w6.cell? ⟨wr.heap.size, 1, none⟩ = some (.int .i64 a) := blk_cell HO6.out rfl
        have z2 : w6.cell? ⟨wr.heap.size, 2, none⟩ = some (.int .u32 v) := blk_cell HO6.out rfl
        have z3 : w6.cell? ⟨wr.heap.size, 3, none⟩ = some (.int .u32 d) := blk_cell HO6.out rfl
        have HEQ : Hid (((((P) ++ enc (zz 3)) ++ enc (zz a)) ++ enc (zz v)) ++ enc (zz d) = P ++ encO (3, a, v, d)) := Hid.in (by rw [encO3]; simp)
        go_wp2
        go_roundw
        case rel => exact ⟨j + 1, ao6, M6, c6, by omega, by go_num, rfl, by rw [← HNX.out, ← HEQ.out]; exact HM6.out, by rw [← HNX.out, ← HEQ.out]; exact HL6.out, HB6.out⟩
        case measure => simp [intOf]; omega
    · go_wp2
      go_ret
      have hT : L.take j = L := List.take_of_length_le (by have := HN.out; omega)
      refine ⟨ab, M, c, rfl, ?_, ?_, HB.out⟩
      · have h := HM.out
        rw [hT, HN.out] at h
        exact h
      · have h := HLb.out
        rw [hT, HN.out] at h
        exact h

end Go.Proofs.YtbanihjjeicdaaaDoor

/- DERIVED of the program: refusal of the project's model by its contract. Own work. -/
import Derived.Test.YtncgjclehplfeaaDoorTsE
import Derived.Laws.StructEq
import Derived.ChangeKeysEq
namespace Go.Proofs.YtncgjclehplfeaaDoor
open Go.RowKit Go.Extern.Stop Go.Stop Go.Extern

set_option maxRecDepth 100000 in
theorem eqIn_tst (d : Nat) (a b c e : Int) (w : World) : (Op.equalIn (d + 3) 113 (.agg #[.int .i64 a, .int .u32 b]) (.agg #[.int .i64 c, .int .u32 e])).run Tryd.prog w = .ok (decide (a = c ∧ b = e)) w := by
  rw [run_equalIn_struct w (d + 2) 113 _ _ Tryd.underlying113 (by kernel_rfl)]
  by_cases h1 : a = c
  · by_cases h2 : b = e
    · simp [Op.eqFields, go_sem, h1, h2]
    · simp [Op.eqFields, go_sem, h1, h2]
  · simp [Op.eqFields, go_sem, h1]
theorem ne_tst (a b c e : Int) (y : Bool) (h : (!decide (a = c ∧ b = e)) = y) (w : World) : (binOp .neq 113 (.agg #[.int .i64 a, .int .u32 b]) (.agg #[.int .i64 c, .int .u32 e])).run Tryd.prog w = .ok (.bool y) w := by
  subst h
  have h := eqIn_tst 9997 a b c e w
  simp only [binOp]
  simp [Op.equal, Op.maxDepth, h]

/-- Why, as a value. -/
def rfv (sa : Nat → Addr) (n : Nat) : Value := if n = 0 then .nilIface else snt (sa n)
theorem rfv_zero (sa : Nat → Addr) : rfv sa 0 = .nilIface := rfl
theorem rfv_pos (sa : Nat → Addr) {n : Nat} (h : n ≠ 0) : rfv sa n = snt (sa n) := if_neg h

theorem knP_of {nA nM : Nat} {k c a v n : Int} {d : Bool} (h : knP nA nM ⟨k, c, a, v, n, d⟩ = true) : (1 ≤ k ∧ k ≤ 5) ∧ (∃ m : Nat, c = (m : Int) ∧ m < nA) ∧ (k ≠ 5 → ∃ m : Nat, a = (m : Int) ∧ m < nM) := by
  unfold knP at h
  simp only [Bool.and_eq_true, Bool.or_eq_true, decide_eq_true_eq] at h
  obtain ⟨⟨h1, h2⟩, h3⟩ := h
  have h1' := wB_of h1
  have h2' := wB_of h2
  refine ⟨h1', ⟨c.toNat, by omega, by omega⟩, fun h5 => ?_⟩
  rcases h3 with h3 | h3
  · exact absurd h3 h5
  · have h3' := wB_of h3
    exact ⟨a.toNat, by omega, by omega⟩

set_option maxHeartbeats 3200000 in
set_option maxRecDepth 20000 in
theorem trefusal_c (w : World) (sa : Nat → Addr) (hE : Env10 w sa) (q N : Nat) (S : List Nat) (A : List (List (Int × Int))) (M : List Int) (hT : PM w q S N A M) (hN : N ≤ 100000) (k c a v n : Int) (d : Bool) (r0 : Nat) (h : refP A M ⟨k, c, a, v, n, d⟩ = r0) :
    Calls Tryd.prog 35 #[.pointer (some ⟨q, 0, none⟩), evv k c a v n d] w fun r w' => r = .returned (rfv sa r0) ∧ Below w.heap.size w w' := by
  have HE := Hid.in hE
  have HT := Hid.in hT
  cases hk : knP A.length M.length ⟨k, c, a, v, n, d⟩ with
  | false =>
    unfold refP at h
    rw [if_pos hk] at h
    subst h
    have HK := Hid.in hk
    clear hE hT hk
    go_enter Tryd.func35, Tryd.ntmps35
    go_wp2_with fail
    refine (tknows_c _ q N S A M (HT.out.step (below_alloc _ _)) k c a v n d false HK.out).mono ?_
    rintro r w1 ⟨rfl, hb⟩
    have HB := Hid.in (bstep (below_alloc w _) (Nat.le_refl _) hb)
    have hg := (HE.out.below HB.out).g 1 (by omega) (by omega)
    change w1.cell? ⟨0, 0, none⟩ = _ at hg
    clear hb
    go_wp2
    go_ret
    exact ⟨rfl, HB.out⟩
  | true =>
    obtain ⟨hk15, ⟨m, rfl, hm⟩, hka⟩ := knP_of hk
    unfold refP at h
    rw [if_neg (by rw [hk]; decide)] at h
    simp only [Int.toNat_natCast] at h
    have HK := Hid.in hk
    obtain ⟨bb, o, capb, cr, am, capm, k0, _, hco, hL, _, _⟩ := hT.core hm
    have c0 := hco.c0
    have HO := Hid.in hco.r.s
    rw [hL] at c0 HO
    obtain ⟨L, hLL⟩ : ∃ L, A.getD m [] = L := ⟨_, rfl⟩
    rw [hLL] at c0 h HO
    obtain ⟨nA, hnA⟩ : ∃ n, A.length = n := ⟨_, rfl⟩
    rw [hnA] at k0 hm
    obtain ⟨nL, hnL⟩ : ∃ n, L.length = n := ⟨_, rfl⟩
    rw [hnL] at c0 HO
    have HNL := Hid.in hnL
    have HLL := Hid.in hLL
    have HNA := Hid.in hnA
    have HH := Hid.in h
    have HKA := Hid.in hka
    have i1 : (m : Int) < (nA : Int) := by omega
    have hqz := lt_cell k0
    have hbz := lt_cell c0
    clear hE hT hk hco hL hLL hnL hnA h hka
    go_enter Tryd.func35, Tryd.ntmps35
    go_wp2_with fail
    refine (tknows_c _ q N S A M (HT.out.step (below_alloc _ _)) k m a v n d true HK.out).mono ?_
    rintro r w1 ⟨rfl, hb⟩
    have hbx := below_alloc w (.cells #[.int .i64 k, .int .i64 (m : Int), .int .i64 a, .int .u32 v, .int .u32 n, .bool d] 24)
    have HB := Hid.in (bstep hbx (Nat.le_refl _) hb)
    have ev : ∀ i u, #[Value.int .i64 k, .int .i64 (m : Int), .int .i64 a, .int .u32 v, .int .u32 n, .bool d][i]? = some u → w1.cell? ⟨w.heap.size, i, none⟩ = some u := fun i u hi => by
      have h0 : (w.alloc (.cells #[.int .i64 k, .int .i64 (m : Int), .int .i64 a, .int .u32 v, .int .u32 n, .bool d] 24)).cell? ⟨w.heap.size, i, none⟩ = some u := blk_cell (heap_alloc_new _ _) hi
      exact (hb.cell (p := ⟨w.heap.size, i, none⟩) (lt_cell h0)).trans h0
    have e0 : w1.cell? ⟨w.heap.size, 0, none⟩ = some (.int .i64 k) := ev 0 _ rfl
    have e1 : w1.cell? ⟨w.heap.size, 1, none⟩ = some (.int .i64 (m : Int)) := ev 1 _ rfl
    have e2 : w1.cell? ⟨w.heap.size, 2, none⟩ = some (.int .i64 a) := ev 2 _ rfl
    have e3 : w1.cell? ⟨w.heap.size, 3, none⟩ = some (.int .u32 v) := ev 3 _ rfl
    have k0' : w1.cell? ⟨q, 0, none⟩ = _ := (HB.out.cell (p := ⟨q, 0, none⟩) hqz).trans k0
    have c0' : w1.cell? ⟨bb, o + m * 3, none⟩ = _ := (HB.out.cell (p := ⟨bb, o + m * 3, none⟩) hbz).trans c0
    have g9 := (HE.out.below HB.out).g 9 (by omega) (by omega)
    have g10 := (HE.out.below HB.out).g 10 (by omega) (by omega)
    change w1.cell? ⟨8, 0, none⟩ = _ at g9
    change w1.cell? ⟨9, 0, none⟩ = _ at g10
    have HT1 := Hid.in (HT.out.step HB.out)
    clear hb hbx ev k0 c0 hqz hbz
    go_wp2
    go_quiet (fail)
    have h := HH.out
    have mkz : ∀ x : Nat, ∃ z, Hid (rdL (A.getD m []) M x = z) ∧ Hid (rdL L M x = z) := fun x => ⟨_, Hid.in (by rw [HLL.out]), Hid.in rfl⟩
    rcases (show k = 1 ∨ k = 2 ∨ k = 3 ∨ k = 4 ∨ k = 5 by omega) with rfl | rfl | rfl | rfl | rfl
    · obtain ⟨x, rfl, hx⟩ := HKA.out (by decide)
      simp only [refL, if_true, Int.toNat_natCast] at h
      obtain ⟨z, HZ, hz⟩ := mkz x
      clear hk15 mkz
      go_wp2_with fail
      refine (tread_c _ q N S A M (HT1.out.step (by first | exact Below.refl _ _ | exact drewN_below (Below.refl _ _) _)) hN m x (by rw [HNA.out]; exact hm) hx z HZ.out).mono ?_
      rintro r w2 ⟨rfl, hb⟩
      have hb2 : Below w1.heap.size w1 w2 := by first | exact hb | exact bstep (drewN_below (Below.refl _ _) _) (Nat.le_refl _) hb
      have f3 : w2.cell? ⟨w.heap.size, 3, none⟩ = _ := (hb2.cell (p := ⟨w.heap.size, 3, none⟩) (lt_cell e3)).trans e3
      have f10 : w2.cell? ⟨9, 0, none⟩ = _ := (hb2.cell (p := ⟨9, 0, none⟩) (lt_cell g10)).trans g10
      have HB2 := Hid.in (bstep HB.out (Nat.le_refl _) hb2)
      clear hb hb2 e0 e1 e2 e3 g9 g10 k0' c0'
      by_cases hzv : z = v
      · rw [if_pos (hz.out.trans hzv)] at h
        subst h
        subst hzv
        go_wp2
        go_ret
        exact ⟨rfl, HB2.out⟩
      · rw [if_neg (fun e => hzv (hz.out.symm.trans e))] at h
        subst h
        have hz0 : (z != v) = true := by simpa using hzv
        go_wp2
        go_ret
        exact ⟨rfl, HB2.out⟩
    · simp only [refL, show ¬ ((2 : Int) = 1) by decide, show ¬ ((2 : Int) = 3) by decide, show ¬ ((2 : Int) = 4) by decide, show ¬ ((2 : Int) = 5) by decide, if_false] at h
      subst h
      clear hk15 mkz
      go_wp2
      go_ret
      exact ⟨rfl, by first | exact HB.out | exact drewN_below HB.out _⟩
    · simp only [refL, show ¬ ((3 : Int) = 1) by decide, if_false, if_true] at h
      clear hk15 mkz
      cases L with
      | nil =>
        simp only [] at h
        subst h
        obtain rfl : nL = 0 := by rw [← HNL.out]; rfl
        go_wp2
        go_ret
        exact ⟨rfl, by first | exact HB.out | exact drewN_below HB.out _⟩
      | cons p R =>
        obtain ⟨x, y⟩ := p
        simp only [Prod.mk.injEq] at h
        have hn0 : 0 < nL := by rw [← HNL.out]; simp
        obtain ⟨b, o', x', y', hao, y0, y1, hxy⟩ := (HO.out.step HB.out).wat 0 hn0
        cases hxy
        rw [hao] at c0'
        rw [Nat.zero_mul, Nat.add_zero] at y0 y1
        have i3 : (0 : Int) < (nL : Int) := by omega
        have i4 : ((nL : Int) == 0) = false := by simp; omega
        have hne := ne_tst x y a v _ rfl
        by_cases hxa : x = a ∧ y = v
        · rw [if_pos hxa] at h
          subst h
          simp only [decide_eq_true hxa, Bool.not_true] at hne
          clear hxa
          go_wp2
          go_quiet (fail)
          go_wp2
          go_ret
          exact ⟨rfl, drewN_below (by first | exact HB.out | exact drewN_below HB.out _) _⟩
        · rw [if_neg hxa] at h
          subst h
          simp only [decide_eq_false hxa, Bool.not_false] at hne
          clear hxa
          go_wp2
          go_quiet (fail)
          go_wp2
          go_ret
          exact ⟨rfl, drewN_below (by first | exact HB.out | exact drewN_below HB.out _) _⟩
    · obtain ⟨x, rfl, hx⟩ := HKA.out (by decide)
      simp only [refL, show ¬ ((4 : Int) = 1) by decide, show ¬ ((4 : Int) = 3) by decide, if_false, if_true, Int.toNat_natCast] at h
      by_cases hL0 : L = []
      · rw [if_neg (fun hn => hn hL0)] at h
        obtain rfl : nL = 0 := by rw [← HNL.out, hL0]; rfl
        obtain ⟨z, HZ, hz⟩ := mkz x
        clear hk15 mkz hL0
        go_wp2_with fail
        refine (tread_c _ q N S A M (HT1.out.step (by first | exact Below.refl _ _ | exact drewN_below (Below.refl _ _) _)) hN m x (by rw [HNA.out]; exact hm) hx z HZ.out).mono ?_
        rintro r w2 ⟨rfl, hb⟩
        have hb2 : Below w1.heap.size w1 w2 := by first | exact hb | exact bstep (drewN_below (Below.refl _ _) _) (Nat.le_refl _) hb
        have f3 : w2.cell? ⟨w.heap.size, 3, none⟩ = _ := (hb2.cell (p := ⟨w.heap.size, 3, none⟩) (lt_cell e3)).trans e3
        have f10 : w2.cell? ⟨9, 0, none⟩ = _ := (hb2.cell (p := ⟨9, 0, none⟩) (lt_cell g10)).trans g10
        have HB2 := Hid.in (bstep HB.out (Nat.le_refl _) hb2)
        clear hb hb2 e0 e1 e2 e3 g9 g10 k0' c0'
        by_cases hzv : z = v
        · rw [if_pos (hz.out.trans hzv)] at h
          subst h
          subst hzv
          go_wp2
          go_ret
          exact ⟨rfl, HB2.out⟩
        · rw [if_neg (fun e => hzv (hz.out.symm.trans e))] at h
          subst h
          have hz0 : (z != v) = true := by simpa using hzv
          go_wp2
          go_ret
          exact ⟨rfl, HB2.out⟩
      · rw [if_pos hL0] at h
        subst h
        have hn0 : 0 < nL := by rw [← HNL.out]; exact List.length_pos_iff.2 hL0
        have i3 : (0 : Int) < (nL : Int) := by omega
        clear hk15 mkz hL0
        go_wp2
        go_ret
        exact ⟨rfl, by first | exact HB.out | exact drewN_below HB.out _⟩
    · simp only [refL, show ¬ ((5 : Int) = 1) by decide, show ¬ ((5 : Int) = 3) by decide, show ¬ ((5 : Int) = 4) by decide, if_false, if_true] at h
      clear hk15 mkz
      by_cases hL0 : L = []
      · rw [if_neg (fun hn => hn hL0)] at h
        subst h
        obtain rfl : nL = 0 := by rw [← HNL.out, hL0]; rfl
        clear hL0
        go_wp2
        go_ret
        exact ⟨rfl, by first | exact HB.out | exact drewN_below HB.out _⟩
      · rw [if_pos hL0] at h
        subst h
        have hn0 : 0 < nL := by rw [← HNL.out]; exact List.length_pos_iff.2 hL0
        have i3 : (0 : Int) < (nL : Int) := by omega
        clear hL0
        go_wp2
        go_ret
        exact ⟨rfl, by first | exact HB.out | exact drewN_below HB.out _⟩
end Go.Proofs.YtncgjclehplfeaaDoor

/- DERIVED of the program: TsoHides returns true. Own work. -/
import Derived.Test.YtncgjclehplfeabDoorTsK
namespace Go.Proofs.YtncgjclehplfeabDoor
open Go.RowKit Go.Extern.Stop Go.Stop Go.Extern

/-- One store waits. -/
structure Hs (s : TS) (n c a : Nat) (v old : Int) : Prop where
  l1 : s.1.length = n
  l2 : s.2.length = 4
  own : s.1.getD c [] = [((a : Int), v)]
  oth : ∀ k, k ≠ c → s.1.getD k [] = []
  mem : s.2.getD a 0 = old
/-- It came to memory. -/
structure Hz (s : TS) (n a : Nat) (v : Int) : Prop where
  l1 : s.1.length = n
  l2 : s.2.length = 4
  oth : ∀ k, s.1.getD k [] = []
  mem : s.2.getD a 0 = v
theorem getD_set {α : Type} (l : List α) (i j : Nat) (x d : α) (hi : i < l.length) : (l.set i x).getD j d = if j = i then x else l.getD j d := by
  by_cases h : j = i
  · subst h; rw [if_pos rfl]; simp [List.getD, hi]
  · rw [if_neg h]; simp only [List.getD]; rw [List.getElem?_set_ne (fun e => h e.symm)]
theorem getD_rep {α : Type} (n k : Nat) (x : α) : (List.replicate n x).getD k x = x := by
  simp only [List.getD]
  by_cases h : k < n
  · simp [h]
  · rw [List.getElem?_eq_none (by simpa using Nat.le_of_not_lt h)]; rfl
theorem hides_s1 (n c a : Nat) (old : Int) (hc : c < n) (ha : a < 4) : refP (ts0 n 4).1 (ts0 n 4).2 ⟨4, c, a, 0, old, true⟩ = 0 ∧ stepS (ts0 n 4) ⟨4, c, a, 0, old, true⟩ = (List.replicate n [], (List.replicate 4 0).set a old) := by
  have h1 : (ts0 n 4).1.getD c [] = [] := getD_rep n c []
  have h2 : (ts0 n 4).2.getD a 0 = 0 := getD_rep 4 a 0
  have l1 : c < (ts0 n 4).1.length := by simpa using hc
  have l2 : a < (ts0 n 4).2.length := by simpa using ha
  exact ⟨by rw [ref_cas _ c a 0 old true l1 l2 h1, if_pos h2], step_cas l1 l2 h1 h2⟩
theorem hides_s2 (n c a : Nat) (v old : Int) (hc : c < n) (ha : a < 4) : ∃ s, refP (List.replicate n []) ((List.replicate 4 0).set a old) ⟨2, c, a, v, 0, false⟩ = 0 ∧ stepS (List.replicate n [], (List.replicate 4 0).set a old) ⟨2, c, a, v, 0, false⟩ = s ∧ Hs s n c a v old := by
  have l1 : c < (List.replicate n ([] : List (Int × Int))).length := by simpa using hc
  have l2 : a < ((List.replicate 4 (0 : Int)).set a old).length := by simpa using ha
  refine ⟨_, ref_store (List.replicate n [], (List.replicate 4 0).set a old) c a v 0 false l1 l2, step_store l1 l2, by simp, by simp, ?_, fun k hk => ?_, ?_⟩
  · simp only []
    rw [getD_set _ _ _ _ _ l1, if_pos rfl, getD_rep]; rfl
  · simp only []
    rw [getD_set _ _ _ _ _ l1, if_neg hk, getD_rep]
  · simp only []
    rw [getD_set _ _ _ _ _ (by simpa using ha), if_pos rfl]
theorem Hs.load {s : TS} {n c a : Nat} {v old : Int} (h : Hs s n c a v old) (ha : a < 4) (k : Nat) (hk : k < n) (z : Int) : refP s.1 s.2 ⟨1, k, a, z, 0, false⟩ = if (if k = c then v else old) = z then 0 else 10 := by
  rw [ref_load s k a z 0 false (by rw [h.l1]; exact hk) (by rw [h.l2]; exact ha)]
  by_cases hkc : k = c
  · subst hkc; rw [h.own, if_pos rfl]; simp [rdL, fwdL]
  · simp only [h.oth k hkc, if_neg hkc, rdL_nil, h.mem]
theorem Hs.commit {s : TS} {n c a : Nat} {v old : Int} (h : Hs s n c a v old) (hc : c < n) (ha : a < 4) : ∃ s', refP s.1 s.2 ⟨3, c, a, v, 0, false⟩ = 0 ∧ stepS s ⟨3, c, a, v, 0, false⟩ = s' ∧ Hz s' n a v := by
  have l1 : c < s.1.length := by rw [h.l1]; exact hc
  have l2 : a < s.2.length := by rw [h.l2]; exact ha
  refine ⟨_, by rw [ref_commit s c a v 0 false l1 l2 _ [] h.own, if_pos rfl], step_commit l1 l2 [] h.own, by simp [h.l1], by simp [h.l2], fun k => ?_, ?_⟩
  · simp only []
    rw [getD_set _ _ _ _ _ l1]
    split
    · rfl
    · rename_i hk; exact h.oth k hk
  · simp only []
    rw [getD_set _ _ _ _ _ l2, if_pos rfl]
theorem Hz.load {s : TS} {n a : Nat} {v : Int} (h : Hz s n a v) (ha : a < 4) (k : Nat) (hk : k < n) : refP s.1 s.2 ⟨1, k, a, v, 0, false⟩ = 0 := by
  rw [ref_load s k a v 0 false (by rw [h.l1]; exact hk) (by rw [h.l2]; exact ha), h.oth k, rdL_nil, h.mem, if_pos rfl]

set_option maxHeartbeats 6400000 in
set_option maxRecDepth 20000 in
theorem tsoHides_any (w : World) (sa : Nat → Addr) (hE : Env10 w sa) (n0 n1 n2 v old : Int) : Calls Tryd.prog 4 #[.int .i64 n0, .int .i64 n1, .int .i64 n2, .int .u32 v, .int .u32 old] w fun r w' => r = .returned (.bool true) ∧ Below w.heap.size w w' := by
  have HE := Hid.in hE
  clear hE
  have hw0 := wI_le n0 2 6 (by omega)
  obtain ⟨n, hn⟩ : ∃ m : Nat, wI n0 2 6 = (m : Int) := ⟨(wI n0 2 6).toNat, by omega⟩
  have hn2 : 2 ≤ n := by omega
  have hn6 : n ≤ 6 := by omega
  have hw1 := wI_le n1 0 ((n : Int) - 1) (by omega)
  have hw2 := wI_le n2 0 3 (by omega)
  obtain ⟨c, hc⟩ : ∃ m : Nat, wI n1 0 ((n : Int) - 1) = (m : Int) := ⟨(wI n1 0 ((n : Int) - 1)).toNat, by omega⟩
  obtain ⟨a, ha⟩ : ∃ m : Nat, wI n2 0 3 = (m : Int) := ⟨(wI n2 0 3).toNat, by omega⟩
  have hcn : c < n := by omega
  have ha4 : a < 4 := by omega
  have HN := Hid.in hn
  have HC := Hid.in hc
  have HA := Hid.in ha
  have hsub : IntKind.i64.wrap ((n : Int) - 1) = (n : Int) - 1 := wrapI (by omega) (by omega)
  obtain ⟨H1a, H1b⟩ := hides_s1 n c a old hcn ha4
  obtain ⟨s2, H2a, H2b, H2⟩ := hides_s2 n c a v old hcn ha4
  have K1a := Hid.in H1a
  have K1b := Hid.in H1b
  have K2a := Hid.in H2a
  have K2b := Hid.in H2b
  have K2 := Hid.in H2
  clear hn hc ha hw0 hw1 hw2 H1a H1b H2a H2b H2
  go_enter Tryd.func4, Tryd.ntmps4
  go_wp2_with fail
  refine (within_i n0 2 6 w (by omega) (by omega) (by omega)).mono ?_
  rw [HN.out]
  rintro r w' ⟨rfl, rfl⟩
  go_wp2_with fail
  refine (at_new w' w' (Below.refl _ _) n 4 (by omega) (by omega) (by decide) (by decide)).mono ?_
  rintro r w1 ⟨q, S, rfl, hA, _, _⟩
  have HA1 := Hid.in hA
  clear hA
  by_cases hvo : v = old
  · subst hvo
    go_wp2_with fail
    refine (tsoRuns_any _ sa (HE.out.below HA1.out.b)).mono ?_
    rintro r w3 ⟨rfl, hb⟩
    have HB3 := Hid.in (bstep HA1.out.b (Nat.le_refl _) hb)
    clear hb
    go_wp2
    go_ret
    exact ⟨rfl, HB3.out⟩
  have hvo' : (v == old) = false := by simpa using hvo
  have HVO := Hid.in hvo
  clear hvo
  go_wp2_with fail
  refine (within_i n1 0 ((n : Int) - 1) _ (by omega) (by omega) (by omega)).mono ?_
  rw [HC.out]
  rintro r w2 ⟨rfl, rfl⟩
  go_wp2_with fail
  refine (within_i n2 0 3 _ (by omega) (by omega) (by omega)).mono ?_
  rw [HA.out]
  rintro r w2 ⟨rfl, rfl⟩
  go_wp2_with fail
  refine (at_yes w' _ sa HE.out q 0 S _ _ HA1.out (by decide) 4 (c : Int) (a : Int) 0 old true K1a.out K1b.out).mono ?_
  rintro r w3 ⟨rfl, S3, hA, _⟩
  have HA3 := Hid.in hA
  clear hA HA1
  go_wp2_with fail
  refine (ev_c _ _ _ _ _).mono ?_
  rintro r w4 ⟨rfl, hb⟩
  have HA4 := Hid.in (HA3.out.step hb)
  clear hb HA3
  go_wp2_with fail
  refine (at_yes w' _ sa HE.out q 1 S3 _ _ HA4.out (by decide) 2 (c : Int) (a : Int) v 0 false K2a.out K2b.out).mono ?_
  rintro r w5 ⟨rfl, S5, hA, _⟩
  have HA5 := Hid.in hA
  clear hA HA4
  go_wp2
  go_loopw [16] (fun x wr => ∃ (k : Nat) (S : List Nat), k ≤ n ∧ x = .int .i64 (k : Int) ∧ At w' wr q S (2 + 2 * k) s2) (fun x _ => n - (intOf x).toNat)
  case atStart => exact ⟨0, S5, Nat.zero_le _, rfl, HA5.out⟩
  case round =>
    obtain ⟨k, Sk, hk, rfl, hA⟩ := hrel
    clear HA5
    have HAk := Hid.in hA
    clear hA
    by_cases hlt : k < n
    · have i1 : (k : Int) < (n : Int) := by omega
      have hN : 2 + 2 * k < 100000 := by omega
      have hN1 : 2 + 2 * k + 1 < 100000 := by omega
      by_cases hkc : k = c
      · subst hkc
        have L1 : Hid (refP s2.1 s2.2 ⟨1, k, a, old, 0, false⟩ = 10) := Hid.in (by rw [K2.out.load ha4 k hlt old, if_pos rfl, if_neg HVO.out])
        have L2 : Hid (refP s2.1 s2.2 ⟨1, k, a, v, 0, false⟩ = 0) := Hid.in (by rw [K2.out.load ha4 k hlt v, if_pos rfl, if_pos rfl])
        go_wp2_with fail
        refine (ev_c _ _ _ _ _).mono ?_
        rintro r w6 ⟨rfl, hb⟩
        have HA6 := Hid.in (HAk.out.step hb)
        clear hb
        go_wp2_with fail
        refine (at_no w' _ sa HE.out q _ Sk s2 HA6.out hN 1 (k : Int) (a : Int) old 0 false 10 L1.out (by decide)).mono ?_
        rintro r w7 ⟨rfl, S7, hA, _⟩
        have HA7 := Hid.in hA
        clear hA HA6
        go_wp2_with fail
        refine (ev_c _ _ _ _ _).mono ?_
        rintro r w8 ⟨rfl, hb⟩
        have HA8 := Hid.in (HA7.out.step hb)
        clear hb HA7
        go_wp2_with fail
        refine (at_yes w' _ sa HE.out q _ S7 s2 s2 HA8.out hN1 1 (k : Int) (a : Int) v 0 false L2.out (step_still (.inl rfl))).mono ?_
        rintro r w9 ⟨rfl, S9, hA, _⟩
        have HA9 := Hid.in hA
        clear hA HA8
        go_wp2
        go_roundw
        case rel => exact ⟨k + 1, S9, by omega, by go_num, HA9.out⟩
        case measure => simp [intOf]; omega
      · have hkc' : ((k : Int) == (c : Int)) = false := by simp; omega
        have L1 : Hid (refP s2.1 s2.2 ⟨1, k, a, v, 0, false⟩ = 10) := Hid.in (by rw [K2.out.load ha4 k hlt v, if_neg hkc, if_neg (fun e => HVO.out e.symm)])
        have L2 : Hid (refP s2.1 s2.2 ⟨1, k, a, old, 0, false⟩ = 0) := Hid.in (by rw [K2.out.load ha4 k hlt old, if_neg hkc, if_pos rfl])
        clear hkc
        go_wp2_with fail
        refine (ev_c _ _ _ _ _).mono ?_
        rintro r w6 ⟨rfl, hb⟩
        have HA6 := Hid.in (HAk.out.step hb)
        clear hb
        go_wp2_with fail
        refine (at_no w' _ sa HE.out q _ Sk s2 HA6.out hN 1 (k : Int) (a : Int) v 0 false 10 L1.out (by decide)).mono ?_
        rintro r w7 ⟨rfl, S7, hA, _⟩
        have HA7 := Hid.in hA
        clear hA HA6
        go_wp2_with fail
        refine (ev_c _ _ _ _ _).mono ?_
        rintro r w8 ⟨rfl, hb⟩
        have HA8 := Hid.in (HA7.out.step hb)
        clear hb HA7
        go_wp2_with fail
        refine (at_yes w' _ sa HE.out q _ S7 s2 s2 HA8.out hN1 1 (k : Int) (a : Int) old 0 false L2.out (step_still (.inl rfl))).mono ?_
        rintro r w9 ⟨rfl, S9, hA, _⟩
        have HA9 := Hid.in hA
        clear hA HA8
        go_wp2
        go_roundw
        case rel => exact ⟨k + 1, S9, by omega, by go_num, HA9.out⟩
        case measure => simp [intOf]; omega
    · obtain rfl : k = n := by omega
      obtain ⟨j, hj⟩ : ∃ j : Nat, (c + 1) % k = j := ⟨_, rfl⟩
      have hjk : j < k := by rw [← hj]; exact Nat.mod_lt _ (by omega)
      have hjc : j ≠ c := by
        rw [← hj]
        by_cases h : c + 1 < k
        · rw [Nat.mod_eq_of_lt h]; omega
        · rw [show c + 1 = k by omega, Nat.mod_self]; omega
      have hmod : ((c : Int) + 1).tmod (k : Int) = (j : Int) := by
        rw [← hj, show (c : Int) + 1 = ((c + 1 : Nat) : Int) by omega]
        exact (Int.ofNat_tmod (c + 1) k).symm
      have M1 : Hid (refP s2.1 s2.2 ⟨3, j, a, v, 0, false⟩ = 9) := Hid.in (ref_commit0 s2 j a v 0 false (by rw [K2.out.l1]; exact hjk) (by rw [K2.out.l2]; exact ha4) (K2.out.oth j hjc))
      have M2 : Hid (refP s2.1 s2.2 ⟨3, c, a, old, 0, false⟩ = 10) := Hid.in (by
        rw [ref_commit s2 c a old 0 false (by rw [K2.out.l1]; exact hcn) (by rw [K2.out.l2]; exact ha4) _ [] K2.out.own, if_neg (fun e => HVO.out (congrArg Prod.snd e))])
      obtain ⟨s3, c1, c2, c3⟩ := K2.out.commit hcn ha4
      have M3 := Hid.in c1
      have M4 := Hid.in c2
      have M5 := Hid.in c3
      have hN : 2 + 2 * k < 100000 := by omega
      have hN1 : 2 + 2 * k + 1 < 100000 := by omega
      have hN2 : 2 + 2 * k + 1 + 1 < 100000 := by omega
      clear c1 c2 c3 hj hjk hjc
      go_wp2_with fail
      refine (ev_c _ _ _ _ _).mono ?_
      rintro r wa1 ⟨rfl, hb⟩
      have HAa1 := Hid.in (HAk.out.step hb)
      clear hb HAk
      go_wp2_with fail
      refine (at_no w' _ sa HE.out q _ Sk s2 HAa1.out hN 3 (j : Int) (a : Int) v 0 false 9 M1.out (by decide)).mono ?_
      rintro r wa2 ⟨rfl, Sa2, hA, _⟩
      have HAa2 := Hid.in hA
      clear hA HAa1
      go_wp2_with fail
      refine (ev_c _ _ _ _ _).mono ?_
      rintro r wa3 ⟨rfl, hb⟩
      have HAa3 := Hid.in (HAa2.out.step hb)
      clear hb HAa2
      go_wp2_with fail
      refine (at_no w' _ sa HE.out q _ Sa2 s2 HAa3.out hN1 3 (c : Int) (a : Int) old 0 false 10 M2.out (by decide)).mono ?_
      rintro r wa4 ⟨rfl, Sa4, hA, _⟩
      have HAa4 := Hid.in hA
      clear hA HAa3
      go_wp2_with fail
      refine (ev_c _ _ _ _ _).mono ?_
      rintro r wa5 ⟨rfl, hb⟩
      have HAa5 := Hid.in (HAa4.out.step hb)
      clear hb HAa4
      go_wp2_with fail
      refine (at_yes w' _ sa HE.out q _ Sa4 s2 s3 HAa5.out hN2 3 (c : Int) (a : Int) v 0 false M3.out M4.out).mono ?_
      rintro r wa6 ⟨rfl, Sa6, hA, _⟩
      have HAa6 := Hid.in hA
      clear hA HAa5
      go_wp2
      go_loopw [19] (fun x wr => ∃ (j : Nat) (S : List Nat), j ≤ k ∧ x = .int .i64 (j : Int) ∧ At w' wr q S (5 + 2 * k + j) s3) (fun x _ => k - (intOf x).toNat)
      case atStart => exact ⟨0, Sa6, Nat.zero_le _, rfl, by have h := HAa6.out; rwa [show 2 + 2 * k + 1 + 1 + 1 = 5 + 2 * k + 0 by omega] at h⟩
      case round =>
        obtain ⟨j, Sj, hj, rfl, hA⟩ := hrel
        clear HAa6
        have HAj := Hid.in hA
        clear hA
        by_cases hlt : j < k
        · have i1 : (j : Int) < (k : Int) := by omega
          have hNj : 5 + 2 * k + j < 100000 := by omega
          have L1 : Hid (refP s3.1 s3.2 ⟨1, j, a, v, 0, false⟩ = 0) := Hid.in (M5.out.load ha4 j hlt)
          go_wp2_with fail
          refine (ev_c _ _ _ _ _).mono ?_
          rintro r wb1 ⟨rfl, hb⟩
          have HAb1 := Hid.in (HAj.out.step hb)
          clear hb HAj
          go_wp2_with fail
          refine (at_yes w' _ sa HE.out q _ Sj s3 s3 HAb1.out hNj 1 (j : Int) (a : Int) v 0 false L1.out (step_still (.inl rfl))).mono ?_
          rintro r wb2 ⟨rfl, Sb2, hA, _⟩
          have HAb2 := Hid.in hA
          clear hA HAb1
          have HWT := Hid.in (twait_c _ q _ Sb2 s3.1 s3.2 HAb2.out.p j (by rw [M5.out.l1]; exact hlt) 0 (by rw [M5.out.oth j]; rfl))
          go_wp2_with fail
          refine HWT.out.mono ?_
          rintro r wc ⟨rfl, rfl⟩
          go_wp2
          go_roundw
          case rel => exact ⟨j + 1, Sb2, by omega, by go_num, HAb2.out⟩
          case measure => simp [intOf]; omega
        · obtain rfl : j = k := by omega
          go_wp2_with fail
          refine (tsoRuns_any _ sa (HE.out.below HAj.out.b)).mono ?_
          rintro r wz ⟨rfl, hb⟩
          have HBZ := Hid.in (bstep HAj.out.b (Nat.le_refl _) hb)
          clear hb
          go_wp2
          go_ret
          exact ⟨rfl, HBZ.out⟩
end Go.Proofs.YtncgjclehplfeabDoor

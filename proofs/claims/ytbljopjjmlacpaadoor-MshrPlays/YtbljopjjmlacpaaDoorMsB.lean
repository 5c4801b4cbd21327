/- DERIVED of the program: Full, Add and Drop of a table of misses by their contracts. Own work. -/
import Derived.Test.YtbljopjjmlacpaaDoorMsA
import Derived.Test.YtbljopjjmlacpaaDoorGenR
namespace Go.Proofs.YtbljopjjmlacpaaDoor
open Go.RowKit Go.Extern.Stop Go.Stop Go.Extern

theorem mlist_c (w : World) (q m : Nat) (K : List Int) (hT : Tbl w q m K) (n : Nat) (hn : (allK K).length = n) :
    Calls Tryd.prog 14 #[.pointer (some ⟨q, 0, none⟩)] w fun r w' => ∃ ao cap, r = .returned (.slice ao n cap) ∧ OwnM 48 w' w.heap.size ao n cap (allK K) ∧ Below w.heap.size w w' := by
  rw [← hn]; exact mlist_any w q m K hT

theorem mfull_c (w : World) (q m : Nat) (K : List Int) (hT : Tbl w q m K) (b : Bool) (h : decide (m ≤ (allK K).length) = b) :
    Calls Tryd.prog 11 #[.pointer (some ⟨q, 0, none⟩)] w fun r w' => r = .returned (.bool b) ∧ Below w.heap.size w w' := by
  subst h
  obtain ⟨n, hn⟩ : ∃ n, (allK K).length = n := ⟨_, rfl⟩
  rw [hn]
  have HT := Hid.in hT
  have HN := Hid.in hn
  have hc0 := hT.c0
  have hnl : n ≤ 32 := by rw [← hn]; exact allK_le K
  have hm8 := hT.m8
  clear hT hn
  go_enter Tryd.func11, Tryd.ntmps11
  go_upto_region 1 with fail
  have hbr : Below w.heap.size w w := Below.refl _ _
  have hbd : ∀ W, Below w.heap.size w W → Below w.heap.size w W.drew := fun W h => h.drew
  have hck : ∀ W, Below w.heap.size w W → W.cell? ⟨q, 0, none⟩ = some (.int .i64 (m : Int)) := fun W hW => (hW.cell (p := ⟨q, 0, none⟩) HT.out.lt).trans HT.out.c0
  go_region_held3 (fun W => W.cell? ⟨q, 0, none⟩ = some (.int .i64 (m : Int)) ∧ Below w.heap.size w W) (first | go_keep | (simp [*]; done))
    (first | (go_at_call 14; refine (mlist_c _ q m K (HT.out.step (by simp [*])) n HN.out).mono ?_; rintro r w1 ⟨ao, cap, rfl, _, hb1⟩; have hb2 : Below w.heap.size w w1 := bstep (by simp [*]) (Nat.le_refl _) hb1; have k0' := hck _ hb2))
  go_wp2
  go_ret
  exact ⟨ret_bool (by simp), hb2⟩

theorem madd_arg (w : World) (sa : Nat → Addr) (hE : Env10 w sa) (q : Nat) (l k : Int) (h : isL l = false ∨ wB k 1 4 = false) :
    Calls Tryd.prog 9 #[.pointer (some ⟨q, 0, none⟩), .int .i64 l, .int .i64 k] w fun r w' => r = .returned (perr sa 1 opMAdd l) ∧ w' = w := by
  have hg : w.cell? ⟨0, 0, none⟩ = some (snt (sa 1)) := hE.g 1 (by omega) (by omega)
  clear hE
  cases hl : isL l with
  | false =>
    have HL := Hid.in hl
    clear h hl
    go_enter Tryd.func9, Tryd.ntmps9
    go_wp2_with fail
    refine (misLine_c l false HL.out w).mono ?_
    rintro r w' ⟨rfl, rfl⟩
    go_wp2_with fail
    refine (wrap_some _ l _ _ w').mono ?_
    rintro r w' ⟨rfl, rfl⟩
    go_wp2
    go_ret
    exact ⟨rfl, rfl⟩
  | true =>
    have HL := Hid.in hl
    have HK : Hid (wB k 1 4 = false) := Hid.in (by rcases h with h | h; (rw [hl] at h; cases h); exact h)
    clear h hl
    go_enter Tryd.func9, Tryd.ntmps9
    go_wp2_with fail
    refine (misLine_c l true HL.out w).mono ?_
    rintro r w' ⟨rfl, rfl⟩
    go_wp2_with fail
    refine (mwithin_c k 1 4 false HK.out w').mono ?_
    rintro r w' ⟨rfl, rfl⟩
    go_wp2_with fail
    refine (wrap_some _ l _ _ w').mono ?_
    rintro r w' ⟨rfl, rfl⟩
    go_wp2
    go_ret
    exact ⟨rfl, rfl⟩

theorem madd_c (w : World) (sa : Nat → Addr) (hE : Env10 w sa) (q m : Nat) (K : List Int) (hT : Tbl w q m K) (l k : Int) (c : Nat) (K' : List Int) (h : addK m K l k = (c, K')) :
    Calls Tryd.prog 9 #[.pointer (some ⟨q, 0, none⟩), .int .i64 l, .int .i64 k] w fun r w' => r = .returned (perr sa c opMAdd l) ∧ Tbl w' q m K' ∧ Apart q (q + 1) w w' := by
  by_cases ha : isL l = false ∨ wB k 1 4 = false
  · rw [addK_arg m K l k ha] at h
    cases h
    exact (madd_arg w sa hE q l k ha).mono fun r w' ⟨h1, h2⟩ => ⟨h1, h2 ▸ hT, h2 ▸ Apart.of_below (Below.refl _ _)⟩
  · have hl : isL l = true := by cases hh : isL l; (exact absurd (.inl hh) ha); rfl
    have hk : wB k 1 4 = true := by cases hh : wB k 1 4; (exact absurd (.inr hh) ha); rfl
    have HE := Hid.in hE
    have HT := Hid.in hT
    have HL := Hid.in hl
    have HK := Hid.in hk
    obtain ⟨n, rfl, hn⟩ := isL_of hl
    rw [addK_at m K n hn k hk] at h
    clear ha hl hk hE hT
    have hn2 : (n : Int) < 32 := by omega
    have hG := getK_at K n hn
    by_cases hz : K.getD n 0 = 0
    · rw [if_neg (fun x => x hz)] at h
      rw [if_pos hz] at hG
      have HG := Hid.in hG
      have HZ := Hid.in hz
      clear hG hz
      by_cases hf : m ≤ (allK K).length
      · rw [if_pos hf] at h
        cases h
        have HF : Hid (decide (m ≤ (allK K).length) = true) := Hid.in (by simp [hf])
        clear hf
        go_enter Tryd.func9, Tryd.ntmps9
        go_wp2_with fail
        refine (misLine_c _ true HL.out w).mono ?_
        rintro r w' ⟨rfl, rfl⟩
        go_wp2_with fail
        refine (mwithin_c k 1 4 true HK.out w').mono ?_
        rintro r w' ⟨rfl, rfl⟩
        go_wp2_with fail
        refine (mget_c w' q m K HT.out _ 0 false HG.out).mono ?_
        rintro r w' ⟨rfl, rfl⟩
        go_wp2_with fail
        refine (mfull_c w' q m K HT.out true HF.out).mono ?_
        rintro r w2 ⟨rfl, hb⟩
        have HB := Hid.in hb
        have hg : w2.cell? ⟨2, 0, none⟩ = some (snt (sa 6)) := (HE.out.below hb).g 6 (by omega) (by omega)
        clear hb
        go_wp2_with fail
        refine (wrap_some _ _ _ _ w2).mono ?_
        rintro r w2 ⟨rfl, rfl⟩
        go_wp2
        go_ret
        exact ⟨rfl, HT.out.step HB.out, Apart.of_below HB.out⟩
      · rw [if_neg hf] at h
        cases h
        have HF : Hid (decide (m ≤ (allK K).length) = false) := Hid.in (by simp; omega)
        clear hf
        go_enter Tryd.func9, Tryd.ntmps9
        go_wp2_with fail
        refine (misLine_c _ true HL.out w).mono ?_
        rintro r w' ⟨rfl, rfl⟩
        go_wp2_with fail
        refine (mwithin_c k 1 4 true HK.out w').mono ?_
        rintro r w' ⟨rfl, rfl⟩
        go_wp2_with fail
        refine (mget_c w' q m K HT.out _ 0 false HG.out).mono ?_
        rintro r w' ⟨rfl, rfl⟩
        go_wp2_with fail
        refine (mfull_c w' q m K HT.out false HF.out).mono ?_
        rintro r w2 ⟨rfl, hb⟩
        have HB := Hid.in hb
        have hc : w2.cell? ⟨q, 1 + n, none⟩ = some (.int .i64 0) := by have := (HT.out.step hb).ck n hn; rwa [HZ.out] at this
        have hfr : w2.frozen? ⟨q, 1 + n, none⟩ = false := (HT.out.step hb).fk _
        clear hb
        go_wp2
        go_ret
        exact ⟨rfl, (HT.out.step HB.out).set n k, (Apart.of_below HB.out).setCell _ (Nat.le_refl _) (by omega)⟩
    · rw [if_pos hz] at h
      rw [if_neg hz] at hG
      cases h
      generalize K.getD n 0 = kk at hz hG
      have HG := Hid.in hG
      have hg : w.cell? ⟨1, 0, none⟩ = some (snt (sa 7)) := HE.out.g 7 (by omega) (by omega)
      clear hG hz
      go_enter Tryd.func9, Tryd.ntmps9
      go_wp2_with fail
      refine (misLine_c _ true HL.out w).mono ?_
      rintro r w' ⟨rfl, rfl⟩
      go_wp2_with fail
      refine (mwithin_c k 1 4 true HK.out w').mono ?_
      rintro r w' ⟨rfl, rfl⟩
      go_wp2_with fail
      refine (mget_c w' q m K HT.out _ _ _ HG.out).mono ?_
      rintro r w' ⟨rfl, rfl⟩
      go_wp2_with fail
      refine (wrap_some _ _ _ _ w').mono ?_
      rintro r w' ⟨rfl, rfl⟩
      go_wp2
      go_ret
      exact ⟨rfl, HT.out, Apart.of_below (Below.refl _ _)⟩

theorem mdrop_c (w : World) (q m : Nat) (K : List Int) (hT : Tbl w q m K) (l : Int) (c : Bool) (K' : List Int) (h : dropK K l = (c, K')) :
    Calls Tryd.prog 13 #[.pointer (some ⟨q, 0, none⟩), .int .i64 l] w fun r w' => r = .returned (.bool c) ∧ Tbl w' q m K' ∧ Apart q (q + 1) w w' := by
  have no : ∀ l, getK K l = (0, false) → Calls Tryd.prog 13 #[.pointer (some ⟨q, 0, none⟩), .int .i64 l] w fun r w' => r = .returned (.bool false) ∧ Tbl w' q m K ∧ Apart q (q + 1) w w' := by
    intro l hg
    have HG := Hid.in hg
    have HT := Hid.in hT
    clear hg hT h
    go_enter Tryd.func13, Tryd.ntmps13
    go_wp2_with fail
    refine (mget_c w q m K HT.out l 0 false HG.out).mono ?_
    rintro r w' ⟨rfl, rfl⟩
    go_wp2
    go_ret
    exact ⟨rfl, HT.out, Apart.of_below (Below.refl _ _)⟩
  cases hl : isL l with
  | false =>
    rw [dropK_none hl] at h
    cases h
    exact no l (getK_none hl)
  | true =>
    obtain ⟨n, rfl, hn⟩ := isL_of hl
    rw [dropK_at K n hn] at h
    have hG := getK_at K n hn
    by_cases hz : K.getD n 0 = 0
    · rw [if_pos hz] at h hG
      cases h
      exact no _ hG
    · rw [if_neg hz] at h hG
      cases h
      have HT := Hid.in hT
      have hc := hT.ck n hn
      have hfr : w.frozen? ⟨q, 1 + n, none⟩ = false := hT.fk _
      generalize K.getD n 0 = kk at hz hG hc
      have HG := Hid.in hG
      have hn2 : (n : Int) < 32 := by omega
      clear hG hz hT no hl
      go_enter Tryd.func13, Tryd.ntmps13
      go_wp2_with fail
      refine (mget_c w q m K HT.out _ _ _ HG.out).mono ?_
      rintro r w' ⟨rfl, rfl⟩
      go_wp2
      go_ret
      exact ⟨rfl, HT.out.set n 0, (Apart.of_below (Below.refl _ _)).setCell _ (Nat.le_refl _) (by omega)⟩

set_option maxHeartbeats 1600000 in
theorem mshrRuns_any (w : World) (sa : Nat → Addr) (hE : Env10 w sa) : Calls Tryd.prog 3 #[] w fun r w' => r = .returned (.bool true) ∧ Below w.heap.size w w' := by
  have HE := Hid.in hE
  clear hE
  go_enter Tryd.func3, Tryd.ntmps3
  go_wp2_with fail
  refine (mnew_ok w 1 (by omega) (by omega)).mono ?_
  rintro r w1 ⟨rfl, hT, hb⟩
  have HT1 := Hid.in hT
  have HB1 := Hid.in hb
  clear hT hb
  go_wp2_with fail
  refine (madd_c w1 sa (HE.out.below HB1.out) _ 1 _ HT1.out 3 1 0 (newK.set 3 1) (by decide +kernel)).mono ?_
  rintro r w2 ⟨rfl, hT, hp⟩
  have HT2 := Hid.in hT
  have HB2 := Hid.in (hp.below HB1.out (Nat.le_refl _) HB1.out.size)
  clear hT hp HT1
  rw [perr_none]
  go_wp2_with fail
  refine (madd_c w2 sa (HE.out.below HB2.out) _ 1 _ HT2.out 3 2 7 (newK.set 3 1) (by decide +kernel)).mono ?_
  rintro r w3 ⟨rfl, hT, hp⟩
  have HT3 := Hid.in hT
  have HB3 := Hid.in (hp.below HB2.out (Nat.le_refl _) HB2.out.size)
  clear hT hp HT2
  rw [perr_some _ _ _ _ (by decide)]
  go_wp2_with fail
  refine (madd_c w3 sa (HE.out.below HB3.out) _ 1 _ HT3.out 4 1 6 (newK.set 3 1) (by decide +kernel)).mono ?_
  rintro r w4 ⟨rfl, hT, hp⟩
  have HT4 := Hid.in hT
  have HB4 := Hid.in (hp.below HB3.out (Nat.le_refl _) HB3.out.size)
  clear hT hp HT3
  rw [perr_some _ _ _ _ (by decide)]
  go_wp2_with fail
  refine (mget_c w4 _ 1 _ HT4.out 3 1 true (by decide +kernel)).mono ?_
  rintro r w4 ⟨rfl, rfl⟩
  go_wp2_with fail
  refine (mfull_c w4 _ 1 _ HT4.out true (by decide +kernel)).mono ?_
  rintro r w5 ⟨rfl, hb⟩
  have HT5 := Hid.in (HT4.out.step hb)
  have HB5 := Hid.in (bstep HB4.out (Nat.le_refl _) hb)
  clear hb HT4
  go_wp2_with fail
  refine (kIs_flt opMAdd 3 [] 7 (by omega) (by omega) w5 sa (HE.out.below HB5.out)).mono ?_
  rintro r w6 ⟨rfl, hb⟩
  have HT6 := Hid.in (HT5.out.step hb)
  have HB6 := Hid.in (bstep HB5.out (Nat.le_refl _) hb)
  clear hb HT5
  go_wp2_with fail
  refine (kIs_flt opMAdd 4 [] 6 (by omega) (by omega) w6 sa (HE.out.below HB6.out)).mono ?_
  rintro r w7 ⟨rfl, hb⟩
  have HT7 := Hid.in (HT6.out.step hb)
  have HB7 := Hid.in (bstep HB6.out (Nat.le_refl _) hb)
  clear hb HT6
  go_wp2_with fail
  refine (mdrop_c w7 _ 1 _ HT7.out 3 true newK (by decide +kernel)).mono ?_
  rintro r w8 ⟨rfl, hT, hp⟩
  have HT8 := Hid.in hT
  have HB8 := Hid.in (hp.below HB7.out (Nat.le_refl _) HB7.out.size)
  clear hT hp HT7
  go_wp2_with fail
  refine (mlist_c w8 _ 1 _ HT8.out 0 (by decide +kernel)).mono ?_
  rintro r w9 ⟨ao, cap, rfl, _, hb⟩
  have HB9 := Hid.in (bstep HB8.out (Nat.le_refl _) hb)
  clear hb HT8
  go_wp2
  go_ret
  exact ⟨rfl, HB9.out⟩

end Go.Proofs.YtbljopjjmlacpaaDoor

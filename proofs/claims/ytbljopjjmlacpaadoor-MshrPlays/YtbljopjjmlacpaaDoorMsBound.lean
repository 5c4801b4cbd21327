/- DERIVED of the program: MshrBound returns true. Own work. -/
import Derived.Test.YtbljopjjmlacpaaDoorMsC
namespace Go.Proofs.YtbljopjjmlacpaaDoor
open Go.RowKit Go.Extern.Stop Go.Stop Go.Extern

theorem addK_grow {m : Nat} {K K' : List Int} {l k : Int} {c : Nat} (hK : K.length = 32) (h : addK m K l k = (c, K')) : (c = 0 ∧ (allK K').length = (allK K).length + 1 ∧ (allK K).length < m) ∨ (c ≠ 0 ∧ K' = K) := by
  unfold addK at h
  split at h
  · cases h; exact .inr ⟨by decide, rfl⟩
  · rename_i h1
    split at h
    · cases h; exact .inr ⟨by decide, rfl⟩
    · rename_i h2
      split at h
      · cases h; exact .inr ⟨by decide, rfl⟩
      · rename_i h3
        cases h
        have h1' : isL l = true ∧ wB k 1 4 = true := Classical.not_not.1 h1
        obtain ⟨x, rfl, hx⟩ := isL_of h1'.1
        have hk := wB_of h1'.2
        have h0 : K.getD x 0 = 0 := by simpa using Classical.not_not.1 h2
        obtain ⟨lo, hi, e1, e2, _⟩ := allK_add hK hx h0 k (by omega)
        refine .inl ⟨rfl, ?_, by omega⟩
        rw [Int.toNat_natCast, e1, e2]
        simp
        omega
theorem OwnS.miss2 {t : TypeId} {w : World} {B n cap : Nat} {ao : Option Addr} {L : List (Int × Int)} (h : OwnM t w B ao n cap L) (j : Nat) (hj : j < L.length) : ∃ b x y, ao = some ⟨b, 0, none⟩ ∧ w.cell? ⟨b, j * 2, none⟩ = some (.int .i64 x) ∧ w.cell? ⟨b, j * 2 + 1, none⟩ = some (.int .i64 y) ∧ L[j]? = some (x, y) := by
  obtain ⟨b, e, h0, h1⟩ := OwnS.miss h j hj
  exact ⟨b, _, _, e, h0, h1, List.getElem?_eq_getElem hj⟩
theorem rise_at {L : List (Int × Int)} (h : L.Pairwise (fun a b => a.1 < b.1)) {j : Nat} {a b c d : Int} (h1 : L[j]? = some (a, b)) (h2 : L[j + 1]? = some (c, d)) : a < c := by
  obtain ⟨l1, e1⟩ := List.getElem?_eq_some_iff.1 h1
  obtain ⟨l2, e2⟩ := List.getElem?_eq_some_iff.1 h2
  have := List.pairwise_iff_getElem.1 h j (j + 1) l1 l2 (by omega)
  rw [e1, e2] at this
  exact this

theorem allK_head {K : List Int} (hK : K.length = 32) {j : Nat} {x z : Int} (h0 : (allK K)[j]? = some (x, z)) : ∃ y : Nat, x = (y : Int) ∧ y < 32 ∧ dropK K (y : Int) = (true, K.set y 0) ∧ (allK (K.set y 0)).length ≤ (allK K).length := by
  obtain ⟨m1, m2, m3, m4⟩ := allK_line K (x, z) (List.mem_of_getElem? h0)
  simp only [] at m1 m2 m3 m4
  obtain ⟨y, rfl⟩ : ∃ y : Nat, x = (y : Int) := ⟨x.toNat, by omega⟩
  rw [Int.toNat_natCast] at m3
  have hy32 : y < 32 := by omega
  have hne : K.getD y 0 ≠ 0 := by rw [← m3]; exact m4
  refine ⟨y, rfl, hy32, by rw [dropK_at K y hy32, if_neg hne], ?_⟩
  obtain ⟨lo, hi, e1, e2, _⟩ := allK_drop hK hy32 hne
  rw [e1, e2]
  simp

set_option maxHeartbeats 6400000 in
set_option maxRecDepth 20000 in
theorem mshrBound_any (w : World) (sa : Nat → Addr) (hE : Env10 w sa) (n0 : Int) (ao : Option Addr) (cap : Nat) (zs : List Int) (hZ : Ints w ao cap zs) :
    Calls Tryd.prog 5 #[.int .i64 n0, .slice ao zs.length cap] w fun r w' => r = .returned (.bool true) ∧ Below w.heap.size w w' := by
  have HE := Hid.in hE
  have HZ := Hid.in hZ
  clear hE hZ
  have hw0 := wI_le n0 1 8 (by omega)
  obtain ⟨n, hn⟩ : ∃ n : Nat, wI n0 1 8 = (n : Int) := ⟨(wI n0 1 8).toNat, by omega⟩
  have h1 : 1 ≤ n := by omega
  have h8 : n ≤ 8 := by omega
  have HN := Hid.in hn
  clear hw0 hn
  go_enter Tryd.func5, Tryd.ntmps5
  go_wp2_with fail
  refine (within_i n0 1 8 w (by omega) (by omega) (by omega)).mono ?_
  rw [HN.out]
  rintro r w ⟨rfl, rfl⟩
  go_wp2_with fail
  refine (mnew_ok w n h1 h8).mono ?_
  rintro r w1 ⟨rfl, hT, hb⟩
  have HT1 := Hid.in hT
  have HB1 := Hid.in hb
  clear hT hb
  go_wp2
  go_loopw [8] (fun c wr => ∃ (i : Nat) (K : List Int), i ≤ zs.length ∧ i ≤ 60 ∧ c = .int .i64 (i : Int) ∧ (allK K).length ≤ n ∧ Tbl wr w.heap.size n K ∧ Below w.heap.size w wr) (fun c _ => 60 - (intOf c).toNat)
  case atStart => exact ⟨0, newK, Nat.zero_le _, Nat.zero_le _, rfl, by rw [allK_new]; exact Nat.zero_le _, HT1.out, HB1.out⟩
  case round =>
    obtain ⟨i, K, hi1, hi3, rfl, hM, hT, hb⟩ := hrel
    have HT := Hid.in hT
    have HB := Hid.in hb
    have HM := Hid.in hM
    clear hT hb hM HT1 HB1
    by_cases hlt : i < zs.length ∧ i < 60
    · obtain ⟨l1, l3⟩ := hlt
      obtain ⟨b1, o1, rfl, hc1⟩ := HZ.out.cell i l1
      generalize zs[i] = za at hc1
      have HC1 := Hid.in hc1
      clear hc1
      have i1 : (i : Int) < (zs.length : Int) := by omega
      have i3 : (i : Int) < 60 := by omega
      obtain ⟨M, hMM⟩ : ∃ M, (allK K).length = M := ⟨_, rfl⟩
      have hMn : M ≤ n := by rw [← hMM]; exact HM.out
      have HMM := Hid.in hMM
      clear hMM
      obtain ⟨x, hx⟩ : ∃ x : Int, wI za (-1) 32 = x := ⟨_, rfl⟩
      have HX := Hid.in hx
      clear hx
      obtain ⟨c, K', hA⟩ : ∃ c K', addK n K x 1 = (c, K') := ⟨_, _, rfl⟩
      have HA := Hid.in hA
      clear hA
      go_wp2_with fail
      refine (mlist_c _ _ n K HT.out M HMM.out).mono ?_
      rintro r w2 ⟨a2, c2, rfl, hO, hb⟩
      have HO2 := Hid.in hO
      have HT2 := Hid.in (HT.out.step hb)
      have HB2 := Hid.in (bstep HB.out (Nat.le_refl _) hb)
      have hd1 : w2.cell? ⟨b1, o1 + i, none⟩ = some (.int .i64 za) := (HB2.out.cell (p := ⟨b1, o1 + i, none⟩) (lt_cell (q := ⟨b1, o1 + i, none⟩) HC1.out)).trans HC1.out
      clear hO hb
      go_wp2_with fail
      refine (within_i za (-1) 32 w2 (by omega) (by omega) (by omega)).mono ?_
      rw [HX.out]
      rintro r w2 ⟨rfl, rfl⟩
      go_wp2_with fail
      refine (madd_c w2 sa (HE.out.below HB2.out) _ n K HT2.out x 1 c K' HA.out).mono ?_
      rintro r w3 ⟨rfl, hT, hp⟩
      have HT3 := Hid.in hT
      have HB3 := Hid.in (hp.below HB2.out (Nat.le_refl _) HB2.out.size)
      have HO3 : Hid (OwnM 48 w3 w.heap.size a2 M c2 (allK K)) := Hid.in (OwnS.low (OwnS.apart HO2.out hp (fun k hk => by have := (HO2.out.blk k hk).1; have := HT.out.lt; omega)) HB.out.size)
      clear hT hp hd1
      obtain ⟨M', hMM⟩ : ∃ M, (allK K').length = M := ⟨_, rfl⟩
      have HMM' := Hid.in hMM
      clear hMM
      go_wp2_with fail
      refine (mlist_c w3 _ n K' HT3.out M' HMM'.out).mono ?_
      rintro r w4 ⟨a4, c4, rfl, hO, hb⟩
      have HO4 := Hid.in (OwnS.low hO HB3.out.size)
      have HT4 := Hid.in (HT3.out.step hb)
      have HB4 := Hid.in (bstep HB3.out (Nat.le_refl _) hb)
      have HO5 := Hid.in (OwnS.step HO3.out hb)
      clear hO hb
      have HGR := Hid.in (addK_grow HT.out.len HA.out)
      have hM' : M' ≤ n := by rcases HGR.out with ⟨_, h, h'⟩ | ⟨_, h⟩; (have := HMM.out; have := HMM'.out; omega); (have := HMM'.out; rw [h, HMM.out] at this; omega)
      go_upto_region 12 with fail
      go_cut [11, 73] (fun _ b wc => b = .bool false ∧ Below w4.heap.size w4 wc)
      case first =>
        rcases HGR.out with ⟨rfl, h, h'⟩ | ⟨h0, rfl⟩
        · rw [perr_none]
          have hm1 : M' = M + 1 := by rw [← HMM'.out, ← HMM.out]; exact h
          have hq : ¬ (n : Int) < (M' : Int) := by omega
          have he : ((M' : Int) == (M : Int) + 1) = true := by simp; omega
          have hm8 : (M : Int) ≤ 8 := by omega
          clear h h' hm1 hM' hMn
          go_wp2_with fail
          go_meet
          case rel => exact ⟨rfl, Below.refl _ _⟩
        · rw [perr_some _ _ _ _ h0]
          have hm1 : M' = M := by rw [← HMM'.out, ← HMM.out]
          subst hm1
          have hq : ¬ (n : Int) < (M' : Int) := by omega
          have he : ((M' : Int) == (M' : Int) + 1) = false := beq_eq_false_iff_ne.2 (by omega)
          have hm8 : (M' : Int) ≤ 8 := by omega
          clear h0 hM' hMn
          go_wp2_with fail
          refine (same_misses w4 _ _ a4 a2 M' c4 c2 _ HO4.out HO5.out (by omega)).mono ?_
          rintro r w5 ⟨rfl, hb⟩
          have HB5 := Hid.in hb
          clear hb
          go_wp2_with fail
          go_meet
          case rel => exact ⟨rfl, HB5.out⟩
      case rest =>
        obtain ⟨rfl, hbc⟩ := hcut
        have HT5 := Hid.in (HT4.out.step hbc)
        have HB5 := Hid.in (bstep HB4.out (Nat.le_refl _) hbc)
        have HO6 := Hid.in (OwnS.step HO4.out hbc)
        clear hbc HGR HO5 HO4 HO3 HT4 HB4 HT3 HB3 HO2 HT2 HB2
        have hM8 : M' ≤ 8 := by omega
        go_wp2
        go_loopw [13] (fun c wv => ∃ j : Nat, 1 ≤ j ∧ (j ≤ M' ∨ j = 1) ∧ c = .int .i64 (j : Int) ∧ Below wc.heap.size wc wv) (fun c _ => 8 - (intOf c).toNat)
        case atStart => exact ⟨1, Nat.le_refl _, .inr rfl, rfl, Below.refl _ _⟩
        case round =>
          obtain ⟨j, hj1, hj2, rfl, hb⟩ := hrel
          have HBv := Hid.in hb
          clear hb
          by_cases hjl : j < M'
          · obtain ⟨j', hjj⟩ : ∃ j', j = j' + 1 := ⟨j - 1, by omega⟩
            have hl1 : j < (allK K').length := by rw [HMM'.out]; exact hjl
            obtain ⟨g, la, _, rfl, p1, _, r1⟩ := OwnS.miss2 (OwnS.step HO6.out HBv.out) j hl1
            obtain ⟨g', lb, _, e, q1, _, r2⟩ := OwnS.miss2 (OwnS.step HO6.out HBv.out) j' (by omega)
            cases e
            have hrs : lb < la := rise_at (lstK_rise K' 32) r2 (hjj ▸ r1)
            clear r1 r2
            have hq : ¬ la ≤ lb := by omega
            have j0 : (0 : Int) ≤ (j' : Int) := by omega
            have j1 : (j : Int) < (M' : Int) := by omega
            have j2 : (j' : Int) < (M' : Int) := by omega
            have j3 : (j : Int) - 1 = (j' : Int) := by omega
            have j4 : (j : Int) ≤ 8 := by omega
            have HJJ := Hid.in hjj
            have HJL := Hid.in hjl
            clear hrs hl1 hj2 hj1 hjl hjj
            have HQ : Hid (decide (la ≤ lb) = false) := Hid.in (decide_eq_false hq)
            clear hq
            go_upto_region 17 with fail
            go_cut [91] (fun b wx => b = .bool false ∧ Below wc.heap.size wc wx)
            case first =>
              go_quiet (fail)
              go_wp2_with fail
              go_meet
              case rel => exact ⟨by rw [HQ.out], drewN_below HBv.out _⟩
            case rest =>
              obtain ⟨rfl, hbx⟩ := hcut
              have HBX := Hid.in hbx
              clear hbx p1 q1
              go_wp2
              go_roundw
              case rel => exact ⟨j + 1, by omega, .inl HJL.out, by go_num, HBX.out⟩
              case measure => have := HJL.out; simp [intOf]; omega
          · have j1 : ¬ (j : Int) < (M' : Int) := by omega
            have HT7 := Hid.in (HT5.out.step HBv.out)
            have HB7 := Hid.in (bstep HB5.out (Nat.le_refl _) HBv.out)
            have HO7 := Hid.in (OwnS.step HO6.out HBv.out)
            have HMK : Hid ((allK K').length ≤ n) := Hid.in (by rw [HMM'.out]; exact hM')
            clear HBv hj1 hj2 hjl
            have hMM0 : (0 : Int) ≤ (M' : Int) := by omega
            by_cases hd : i % 3 = 2 ∧ 0 < M'
            · obtain ⟨d1, d2⟩ := hd
              have hp3 : ((i : Int) % 3 == 2) = true := by simp; omega
              have hp4 : (0 : Int) < (M' : Int) := by omega
              have hl0 : 0 < (allK K').length := by rw [HMM'.out]; exact d2
              obtain ⟨g, x0, _, rfl, p1, _, r1⟩ := OwnS.miss2 HO7.out 0 hl0
              obtain ⟨y, rfl, _, hdk, hlen⟩ := allK_head HT7.out.len r1
              simp only [Nat.zero_mul] at p1
              clear r1
              have HDK := Hid.in hdk
              have HLS : Hid ((allK (K'.set y 0)).length ≤ n) := Hid.in (Nat.le_trans hlen HMK.out)
              clear hdk hlen hl0
              go_wp2_with fail
              refine (mdrop_c _ _ n K' HT7.out _ true _ HDK.out).mono ?_
              rintro r w8 ⟨rfl, hT, hp⟩
              have HT8 := Hid.in hT
              have HB8 := Hid.in (hp.below HB7.out (Nat.le_refl _) HB7.out.size)
              clear hT hp
              go_wp2
              go_roundw
              case rel => exact ⟨i + 1, K'.set y 0, by omega, by omega, by go_num, HLS.out, HT8.out, HB8.out⟩
              case measure => simp [intOf]; omega
            · by_cases d1 : i % 3 = 2
              · have hp3 : ((i : Int) % 3 == 2) = true := by simp; omega
                have HM0 : Hid (M' = 0) := Hid.in (by omega)
                clear hd d1 hMM0
                go_upto_region 19 with fail
                clear j1
                obtain rfl : M' = 0 := HM0.out
                clear HM0
                go_wp2
                go_roundw
                case rel => exact ⟨i + 1, K', by omega, by omega, by go_num, HMK.out, HT7.out, HB7.out⟩
                case measure => simp [intOf]; omega
              · have hp3 : ((i : Int) % 3 == 2) = false := by simp; omega
                clear hd d1
                go_wp2
                go_roundw
                case rel => exact ⟨i + 1, K', by omega, by omega, by go_num, HMK.out, HT7.out, HB7.out⟩
                case measure => simp [intOf]; omega
    · have hor : ¬ i < zs.length ∨ i < zs.length ∧ ¬ i < 60 := by omega
      clear hlt
      rcases hor with g | ⟨g, g3⟩
      · have i1 : ¬ (i : Int) < (zs.length : Int) := by omega
        go_wp2_with fail
        refine (mshrRuns_any _ sa (HE.out.below HB.out)).mono ?_
        rintro r w3 ⟨rfl, hb3⟩
        have HB3 := Hid.in (bstep HB.out (Nat.le_refl _) hb3)
        clear hb3
        go_wp2
        go_ret
        exact ⟨rfl, HB3.out⟩
      · have i1 : (i : Int) < (zs.length : Int) := by omega
        have i3 : ¬ (i : Int) < 60 := by omega
        go_wp2_with fail
        refine (mshrRuns_any _ sa (HE.out.below HB.out)).mono ?_
        rintro r w3 ⟨rfl, hb3⟩
        have HB3 := Hid.in (bstep HB.out (Nat.le_refl _) hb3)
        clear hb3
        go_wp2
        go_ret
        exact ⟨rfl, HB3.out⟩

end Go.Proofs.YtbljopjjmlacpaaDoor

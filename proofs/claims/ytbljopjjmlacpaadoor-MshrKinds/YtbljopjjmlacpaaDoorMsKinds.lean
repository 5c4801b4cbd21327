/- DERIVED of the program: MshrKinds returns true. Own work. -/
import Derived.Test.YtbljopjjmlacpaaDoorMsFull
namespace Go.Proofs.YtbljopjjmlacpaaDoor
open Go.RowKit Go.Extern.Stop Go.Stop Go.Extern

/-- A table, and the statement's own array that says the same. -/
structure Hav (w0 : World) (H n : Nat) (K : List Int) (W : World) : Prop where
  t : Tbl W w0.heap.size n K
  h : W.heap[H]? = some (.cells (ivs K).toArray 54 (0, 0))
  r : ∀ i, 0 ≤ K.getD i 0 ∧ K.getD i 0 ≤ 4
  b : Below w0.heap.size w0 W
  lt : w0.heap.size < H
  m : (allK K).length ≤ n

theorem Hav.step {w0 : World} {H n : Nat} {K : List Int} {W W' : World} (h : Hav w0 H n K W) (hb : Below W.heap.size W W') : Hav w0 H n K W' :=
  ⟨h.t.step hb, (hb.block _ (blk_lt h.h)).trans h.h, h.r, bstep h.b (Nat.le_refl _) hb, h.lt, h.m⟩
theorem Hav.ck {w0 : World} {H n : Nat} {K : List Int} {W : World} (h : Hav w0 H n K W) (x : Nat) (hx : x < 32) : W.cell? ⟨H, x, none⟩ = some (.int .i64 (K.getD x 0)) := by
  refine blk_cell h.h ?_
  have hl : x < K.length := by rw [h.t.len]; exact hx
  simp [ivs, List.getD_eq_getElem?_getD, hl]
theorem Hav.fk {w0 : World} {H n : Nat} {K : List Int} {W : World} (h : Hav w0 H n K W) (x : Nat) : W.frozen? ⟨H, x, none⟩ = false := blk_free h.h
/-- What is written in both. -/
theorem Hav.put {w0 : World} {H n : Nat} {K : List Int} {W W' : World} (h : Hav w0 H n K W) {x : Nat} (v : Int) (hT : Tbl W' w0.heap.size n (K.set x v)) (ha : Apart w0.heap.size (w0.heap.size + 1) W W') (hv : 0 ≤ v ∧ v ≤ 4) (hm : (allK (K.set x v)).length ≤ n) :
    W'.cell? ⟨H, x, none⟩ = W.cell? ⟨H, x, none⟩ ∧ W'.frozen? ⟨H, x, none⟩ = false ∧ Hav w0 H n (K.set x v) (W'.setCell ⟨H, x, none⟩ (.int .i64 v)) := by
  have hlt := h.lt
  have hH := blk_lt h.h
  have hb : W'.heap[H]? = some (.cells (ivs K).toArray 54 (0, 0)) := (ha.block H hH (by omega)).trans h.h
  have hbw := ha.below h.b (Nat.le_refl _) h.b.size
  refine ⟨apart_cell ha (p := ⟨H, x, none⟩) hH (by simp; omega), blk_free hb, ⟨⟨?_, hT.len, hT.m1, hT.m8⟩, ?_, fun i => ?_, hbw.setCell (Nat.le_of_lt hlt) _, hlt, hm⟩⟩
  · rw [Below.heap_setCell _ _ _ _ (by simp; omega)]
    exact hT.b
  · rw [blk_set _ hb]
    simp [ivs, List.map_set]
  · rw [getD_set]
    split
    · exact hv
    · exact h.r i

theorem addK_more {K : List Int} (hK : K.length = 32) {x : Nat} (hx : x < 32) (h0 : K.getD x 0 = 0) (k : Int) (hk : k ≠ 0) : (allK (K.set x k)).length = (allK K).length + 1 := by
  obtain ⟨lo, hi, e1, e2, _⟩ := allK_add hK hx h0 k hk
  rw [e1, e2]
  simp
  omega
theorem dropK_less {K : List Int} (hK : K.length = 32) {x : Nat} (hx : x < 32) (h0 : K.getD x 0 ≠ 0) : (allK K).length = (allK (K.set x 0)).length + 1 := by
  obtain ⟨lo, hi, e1, e2, _⟩ := allK_drop hK hx h0
  rw [e1, e2]
  simp
  omega

set_option maxHeartbeats 6400000 in
set_option maxRecDepth 20000 in
theorem mshrKinds_any (w : World) (sa : Nat → Addr) (hE : Env10 w sa) (n0 : Int) (ao : Option Addr) (cap : Nat) (zs : List Int) (hZ : Ints w ao cap zs) (ao2 : Option Addr) (cap2 : Nat) (ks : List Int) (hS : Ints w ao2 cap2 ks) :
    Calls Tryd.prog 6 #[.int .i64 n0, .slice ao zs.length cap, .slice ao2 ks.length cap2] w fun r w' => r = .returned (.bool true) ∧ Below w.heap.size w w' := by
  have HE := Hid.in hE
  have HZ := Hid.in hZ
  have HS := Hid.in hS
  clear hE hZ hS
  have hw0 := wI_le n0 1 8 (by omega)
  obtain ⟨n, hn⟩ : ∃ n : Nat, wI n0 1 8 = (n : Int) := ⟨(wI n0 1 8).toNat, by omega⟩
  have h1 : 1 ≤ n := by omega
  have h8 : n ≤ 8 := by omega
  have HN := Hid.in hn
  clear hw0 hn
  go_enter Tryd.func6, Tryd.ntmps6
  go_wp2_with fail
  refine (within_i n0 1 8 w (by omega) (by omega) (by omega)).mono ?_
  rw [HN.out]
  rintro r w ⟨rfl, rfl⟩
  go_wp2_with fail
  refine (mnew_ok w n h1 h8).mono ?_
  rintro r w1 ⟨rfl, hT, hb⟩
  have HT1 := Hid.in hT
  have HB1 := Hid.in hb
  clear hT hb
  have HH1 : Hid (Hav w w1.heap.size n newK (w1.alloc (.cells (ivs newK).toArray 54))) := Hid.in ⟨HT1.out.step (below_alloc _ _), heap_alloc_new _ _, fun i => by rw [newK_at]; omega, HB1.out.alloc HB1.out.size _, HT1.out.lt, by rw [allK_new]; exact Nat.zero_le _⟩
  go_wp2
  go_loopw [11, 12] (fun mm c wr => ∃ (i M : Nat) (K : List Int), i ≤ zs.length ∧ i ≤ ks.length ∧ i ≤ 40 ∧ c = .int .i64 (i : Int) ∧ mm = .int .i64 (M : Int) ∧ (allK K).length = M ∧ Hav w w1.heap.size n K wr) (fun _ c _ => 40 - (intOf c).toNat)
  case atStart => exact ⟨0, 0, newK, Nat.zero_le _, Nat.zero_le _, Nat.zero_le _, rfl, rfl, by rw [allK_new]; rfl, HH1.out⟩
  case round =>
    obtain ⟨i, M, K, hi1, hi2, hi3, rfl, rfl, hM, hH⟩ := hrel
    have HH := Hid.in hH
    have HM := Hid.in hM
    have hMn : M ≤ n := by rw [← hM]; exact hH.m
    clear hH hM HH1 HT1 HB1
    by_cases hlt : i < zs.length ∧ i < ks.length ∧ i < 40
    · obtain ⟨l1, l2, l3⟩ := hlt
      obtain ⟨b1, o1, rfl, hc1⟩ := HZ.out.cell i l1
      obtain ⟨b2, o2, rfl, hc2⟩ := HS.out.cell i l2
      have hd1 : wr.cell? ⟨b1, o1 + i, none⟩ = some (.int .i64 zs[i]) := (HH.out.b.cell (p := ⟨b1, o1 + i, none⟩) (lt_cell (q := ⟨b1, o1 + i, none⟩) hc1)).trans hc1
      have hd2 : wr.cell? ⟨b2, o2 + i, none⟩ = some (.int .i64 ks[i]) := (HH.out.b.cell (p := ⟨b2, o2 + i, none⟩) (lt_cell (q := ⟨b2, o2 + i, none⟩) hc2)).trans hc2
      generalize zs[i] = za at hd1 hc1
      generalize ks[i] = ka at hd2 hc2
      clear hc1 hc2
      have i1 : (i : Int) < (zs.length : Int) := by omega
      have i2 : (i : Int) < (ks.length : Int) := by omega
      have i3 : (i : Int) < 40 := by omega
      have hx1 := wI_le za 0 31 (by omega)
      have hx2 := wI_le ka 1 4 (by omega)
      obtain ⟨x, hx⟩ : ∃ x : Nat, wI za 0 31 = (x : Int) := ⟨(wI za 0 31).toNat, by omega⟩
      obtain ⟨k, hk⟩ : ∃ k : Int, wI ka 1 4 = k := ⟨_, rfl⟩
      have W1 : ∀ w', Calls Tryd.prog 21 #[.int .i64 za, .int .i64 0, .int .i64 31] w' fun r w'' => r = .returned (.int .i64 (x : Int)) ∧ w'' = w' := fun w' => by rw [← hx]; exact within_i za 0 31 w' (by omega) (by omega) (by omega)
      have W2 : ∀ w', Calls Tryd.prog 21 #[.int .i64 ka, .int .i64 1, .int .i64 4] w' fun r w'' => r = .returned (.int .i64 k) ∧ w'' = w' := fun w' => by rw [← hk]; exact within_i ka 1 4 w' (by omega) (by omega) (by omega)
      have x32 : x < 32 := by omega
      have k1 : 1 ≤ k := by omega
      have k4 : k ≤ 4 := by omega
      clear hx1 hx2 hx hk
      go_upto_region 10 with fail
      go_cut [13, 14] (fun a b wc => a = .int .i64 (x : Int) ∧ b = .int .i64 k ∧ Hav w w1.heap.size n K wc)
      case first =>
        go_quiet ((go_at_call 21; first | (with_reducible exact Calls.quiet_of_same (W1 _)) | (with_reducible exact Calls.quiet_of_same (W2 _))))
        go_wp2_with fail
        go_meet
        case rel => exact ⟨rfl, rfl, HH.out.step (drewN_below (Below.refl _ _) _)⟩
      case rest =>
        obtain ⟨rfl, rfl, hH⟩ := hcut
        have HHc := Hid.in hH
        clear hH HH W1 W2 hd1 hd2
        have hc := HHc.out.ck x x32
        have hxf := HHc.out.fk x
        have hr := HHc.out.r x
        have HL : Hid (isL (x : Int) = true) := Hid.in (isL_nat x32)
        have HG := Hid.in (getK_at K x x32)
        have HDR := Hid.in (dropK_at K x x32)
        have HKB : Hid (wB k 1 4 = true) := Hid.in (wB_yes ⟨k1, k4⟩)
        have HAD := Hid.in (addK_at n K x x32 k HKB.out)
        have x32i : (x : Int) < 32 := by omega
        obtain ⟨z, hz⟩ : ∃ z, K.getD x 0 = z := ⟨_, rfl⟩
        rw [hz] at hc hr HG HDR HAD
        have HZX := Hid.in hz
        clear hz
        rw [HM.out] at HAD
        by_cases hdr : 0 < z ∧ i % 2 = 0
        · obtain ⟨hz0, hi0⟩ := hdr
          have hpar : ((i : Int) % 2 == 0) = true := by simp; omega
          have HD1 : Hid (dropK K (x : Int) = (true, K.set x 0)) := Hid.in (by rw [HDR.out, if_neg (by omega)])
          have HD2 : Hid (dropK (K.set x 0) (x : Int) = (false, K.set x 0)) := Hid.in (by
            have hg : (K.set x 0).getD x 0 = 0 := by rw [getD_set, if_pos ⟨rfl, by rw [HHc.out.t.len]; exact x32⟩]
            rw [dropK_at _ x x32, hg, if_pos rfl])
          have HLS : Hid ((allK K).length = (allK (K.set x 0)).length + 1) := Hid.in (dropK_less HHc.out.t.len x32 (by rw [HZX.out]; omega))
          go_wp2_with fail
          refine (mdrop_c _ _ n K HHc.out.t _ true _ HD1.out).mono ?_
          rintro r w2 ⟨rfl, hT, hp⟩
          have HT2 := Hid.in hT
          have HP2 := Hid.in hp
          clear hT hp
          go_wp2_with fail
          refine (mdrop_c w2 _ n _ HT2.out _ false _ HD2.out).mono ?_
          rintro r w3 ⟨rfl, hT, hp⟩
          have HT3 := Hid.in hT
          have HP3 := Hid.in (HP2.out.trans hp)
          clear hT hp
          obtain ⟨g1, g2, g3⟩ := HHc.out.put 0 HT3.out HP3.out (by omega) (by have := HLS.out; have := HHc.out.m; omega)
          rw [hc] at g1
          have HG3 := Hid.in g3
          clear g3
          have hM1 : 1 ≤ M := by have := HLS.out; have := HM.out; omega
          go_wp2
          go_roundw
          case rel => exact ⟨i + 1, M - 1, K.set x 0, by omega, by omega, by omega, by go_num, by go_num, by have := HLS.out; have := HM.out; omega, HG3.out⟩
          case measure => simp [intOf]; omega
        · have hpar : 0 < z → ((i : Int) % 2 == 0) = false := fun h => by simp; omega
          have HAP : Hid (∀ W W', Hav w w1.heap.size n K W → Tbl W' w.heap.size n K → Apart w.heap.size (w.heap.size + 1) W W' → Hav w w1.heap.size n K W') := Hid.in (fun W W' h hT ha => ⟨hT, (ha.block _ (blk_lt h.h) (by have := h.lt; omega)).trans h.h, h.r, ha.below h.b (Nat.le_refl _) h.b.size, h.lt, h.m⟩)
          by_cases hz0 : z = 0
          · subst hz0
            clear hpar hdr hr
            by_cases hMN : M < n
            · have hMN1 : (M : Int) < (n : Int) := by omega
              have HA : Hid (addK n K (x : Int) k = (0, K.set x k)) := Hid.in (by rw [HAD.out, if_neg (by simp), if_neg (by omega)])
              have HMO : Hid ((allK (K.set x k)).length = M + 1) := Hid.in (by rw [← HM.out]; exact addK_more HHc.out.t.len x32 HZX.out k (by omega))
              have HG2 : Hid (getK (K.set x k) (x : Int) = (k, true)) := Hid.in (by
                have hg : (K.set x k).getD x 0 = k := by rw [getD_set, if_pos ⟨rfl, by rw [HHc.out.t.len]; exact x32⟩]
                rw [getK_at _ x x32, hg, if_neg (by omega)])
              have hM1 : (M : Int) + 1 ≤ 9 := by omega
              go_wp2_with fail
              refine (madd_c _ sa (HE.out.below HHc.out.b) _ n K HHc.out.t _ k 0 _ HA.out).mono ?_
              rintro r w2 ⟨rfl, hT, hp⟩
              have HT2 := Hid.in hT
              have HP2 := Hid.in hp
              clear hT hp
              rw [perr_none]
              obtain ⟨g1, g2, g3⟩ := HHc.out.put k HT2.out HP2.out (by omega) (by rw [HMO.out]; omega)
              rw [hc] at g1
              have HG3 := Hid.in g3
              clear g3 hc hxf
              go_upto_region 17 with fail
              go_quiet (fail)
              have HG4 : Hid (Hav w w1.heap.size n (K.set x k) ((w2.drewN nq).setCell ⟨w1.heap.size, x, none⟩ (.int .i64 k))) := Hid.in (HG3.out.step (drewN_below (Below.refl _ _) nq))
              go_wp2_with fail
              refine (mget_c _ _ n _ HG4.out.t _ k true HG2.out).mono ?_
              rintro r w3 ⟨rfl, hw3⟩
              have HG5 : Hid (Hav w w1.heap.size n (K.set x k) w3) := Hid.in (by rw [hw3]; exact HG4.out)
              have hc5 : w3.cell? ⟨w1.heap.size, x, none⟩ = some (.int .i64 k) := by
                have := HG5.out.ck x x32
                rwa [getD_set, if_pos ⟨rfl, by rw [HHc.out.t.len]; exact x32⟩] at this
              clear hw3 g1 g2
              have hk0 : (0 : Int) < k := by omega
              obtain ⟨b, hb⟩ : ∃ b, decide (n ≤ (allK (K.set x k)).length) = b := ⟨_, rfl⟩
              have hbb : ((M : Int) + 1 == (n : Int)) = b := by
                rw [← hb, HMO.out]
                by_cases h : M + 1 = n
                · have h2 : (M : Int) + 1 = (n : Int) := by omega
                  simp [h2, show n ≤ M + 1 by omega]
                · have h2 : ¬ (M : Int) + 1 = (n : Int) := by omega
                  simp [h2, show ¬ n ≤ M + 1 by omega]
              have HBF := Hid.in hb
              clear hb
              go_wp2_with fail
              refine (mfull_c w3 _ n _ HG5.out.t b HBF.out).mono ?_
              rintro r w4 ⟨rfl, hb4⟩
              have HG6 := Hid.in (HG5.out.step hb4)
              clear hb4 hc5
              cases b
              all_goals
                go_wp2
                go_roundw
                case rel => exact ⟨i + 1, M + 1, K.set x k, by omega, by omega, by omega, by go_num, by go_num, HMO.out, HG6.out⟩
                case measure => simp [intOf]; omega
            · obtain rfl : M = n := by omega
              have HA : Hid (addK M K (x : Int) k = (6, K)) := Hid.in (by rw [HAD.out, if_neg (by simp), if_pos (Nat.le_refl _)])
              have HG2 : Hid (getK K (x : Int) = (0, false)) := Hid.in (by rw [HG.out, if_pos rfl])
              go_wp2_with fail
              refine (madd_c _ sa (HE.out.below HHc.out.b) _ M K HHc.out.t _ k 6 _ HA.out).mono ?_
              rintro r w2 ⟨rfl, hT, hp⟩
              have HH2 := Hid.in (HAP.out _ _ HHc.out hT hp)
              clear hT hp hc hxf
              rw [perr_some _ _ _ _ (by decide)]
              have hc2 : w2.cell? ⟨w1.heap.size, x, none⟩ = some (.int .i64 0) := by have := HH2.out.ck x x32; rwa [HZX.out] at this
              go_upto_region 17 with fail
              go_quiet (fail)
              go_wp2_with fail
              refine (mget_c _ _ M _ (HH2.out.step (drewN_below (Below.refl _ _) nq)).t _ 0 false HG2.out).mono ?_
              rintro r w3 ⟨rfl, hw3⟩
              have HG5 : Hid (Hav w w1.heap.size M K w3) := Hid.in (by rw [hw3]; exact HH2.out.step (drewN_below (Below.refl _ _) nq))
              have hc5 : w3.cell? ⟨w1.heap.size, x, none⟩ = some (.int .i64 0) := by have := HG5.out.ck x x32; rwa [HZX.out] at this
              clear hw3 hc2
              go_wp2_with fail
              refine (mfull_c w3 _ M _ HG5.out.t true (by rw [HM.out]; simp)).mono ?_
              rintro r w4 ⟨rfl, hb4⟩
              have HG6 := Hid.in (HG5.out.step hb4)
              clear hb4 hc5
              go_wp2
              go_roundw
              case rel => exact ⟨i + 1, M, K, by omega, by omega, by omega, by go_num, rfl, HM.out, HG6.out⟩
              case measure => simp [intOf]; omega
          · have hz1 : 0 < z := by omega
            have hpar2 := hpar hz1
            have hz2 : (z == 0) = false := by simpa using hz0
            clear hpar hdr hr
            have HA : Hid (addK n K (x : Int) k = (7, K)) := Hid.in (by rw [HAD.out, if_pos (by omega)])
            have HG2 : Hid (getK K (x : Int) = (z, true)) := Hid.in (by rw [HG.out, if_neg hz0])
            go_wp2_with fail
            refine (madd_c _ sa (HE.out.below HHc.out.b) _ n K HHc.out.t _ k 7 _ HA.out).mono ?_
            rintro r w2 ⟨rfl, hT, hp⟩
            have HH2 := Hid.in (HAP.out _ _ HHc.out hT hp)
            clear hT hp hc hxf
            rw [perr_some _ _ _ _ (by decide)]
            have hc2 : w2.cell? ⟨w1.heap.size, x, none⟩ = some (.int .i64 z) := by have := HH2.out.ck x x32; rwa [HZX.out] at this
            go_upto_region 17 with fail
            go_quiet (fail)
            go_wp2_with fail
            refine (mget_c _ _ n _ (HH2.out.step (drewN_below (Below.refl _ _) nq)).t _ z true HG2.out).mono ?_
            rintro r w3 ⟨rfl, hw3⟩
            have HG5 : Hid (Hav w w1.heap.size n K w3) := Hid.in (by rw [hw3]; exact HH2.out.step (drewN_below (Below.refl _ _) nq))
            have hc5 : w3.cell? ⟨w1.heap.size, x, none⟩ = some (.int .i64 z) := by have := HG5.out.ck x x32; rwa [HZX.out] at this
            clear hw3 hc2
            obtain ⟨b, hb⟩ : ∃ b, decide (n ≤ (allK K).length) = b := ⟨_, rfl⟩
            have hbb : ((M : Int) == (n : Int)) = b := by
              rw [← hb, HM.out]
              by_cases h : M = n
              · simp [h]
              · have h2 : ¬ (M : Int) = (n : Int) := by omega
                simp [h2, show ¬ n ≤ M by omega]
            have HBF := Hid.in hb
            clear hb
            go_wp2_with fail
            refine (mfull_c w3 _ n _ HG5.out.t b HBF.out).mono ?_
            rintro r w4 ⟨rfl, hb4⟩
            have HG6 := Hid.in (HG5.out.step hb4)
            clear hb4 hc5
            cases b
            all_goals
              go_wp2
              go_roundw
              case rel => exact ⟨i + 1, M, K, by omega, by omega, by omega, by go_num, rfl, HM.out, HG6.out⟩
              case measure => simp [intOf]; omega
    · have fin : ∀ wz, Hav w w1.heap.size n K wz → Calls Tryd.prog 14 #[.pointer (some ⟨w.heap.size, 0, none⟩)] wz fun r w' => ∃ ao cap, r = .returned (.slice ao M cap) ∧ Hav w w1.heap.size n K w' := fun wz hz =>
        (mlist_c wz _ n K hz.t M HM.out).mono fun r w' ⟨ao, cap, e, _, hb⟩ => ⟨ao, cap, e, hz.step hb⟩
      have HFN := Hid.in fin
      clear fin
      have hor : ¬ i < zs.length ∨ i < zs.length ∧ (¬ i < ks.length ∨ i < ks.length ∧ ¬ i < 40) := by omega
      clear hlt
      rcases hor with g | ⟨g, g2 | ⟨g2, g3⟩⟩
      · have i1 : ¬ (i : Int) < (zs.length : Int) := by omega
        go_wp2_with fail
        refine (HFN.out _ HH.out).mono ?_
        rintro r w2 ⟨aa, cc, rfl, hH⟩
        have HH2 := Hid.in hH
        clear hH
        go_wp2_with fail
        refine (mshrRuns_any w2 sa (HE.out.below HH2.out.b)).mono ?_
        rintro r w3 ⟨rfl, hb3⟩
        have HB3 := Hid.in (bstep HH2.out.b (Nat.le_refl _) hb3)
        clear hb3
        go_wp2
        go_ret
        exact ⟨rfl, HB3.out⟩
      · have i1 : (i : Int) < (zs.length : Int) := by omega
        have i2 : ¬ (i : Int) < (ks.length : Int) := by omega
        go_wp2_with fail
        refine (HFN.out _ HH.out).mono ?_
        rintro r w2 ⟨aa, cc, rfl, hH⟩
        have HH2 := Hid.in hH
        clear hH
        go_wp2_with fail
        refine (mshrRuns_any w2 sa (HE.out.below HH2.out.b)).mono ?_
        rintro r w3 ⟨rfl, hb3⟩
        have HB3 := Hid.in (bstep HH2.out.b (Nat.le_refl _) hb3)
        clear hb3
        go_wp2
        go_ret
        exact ⟨rfl, HB3.out⟩
      · have i1 : (i : Int) < (zs.length : Int) := by omega
        have i2 : (i : Int) < (ks.length : Int) := by omega
        have i3 : ¬ (i : Int) < 40 := by omega
        go_wp2_with fail
        refine (HFN.out _ HH.out).mono ?_
        rintro r w2 ⟨aa, cc, rfl, hH⟩
        have HH2 := Hid.in hH
        clear hH
        go_wp2_with fail
        refine (mshrRuns_any w2 sa (HE.out.below HH2.out.b)).mono ?_
        rintro r w3 ⟨rfl, hb3⟩
        have HB3 := Hid.in (bstep HH2.out.b (Nat.le_refl _) hb3)
        clear hb3
        go_wp2
        go_ret
        exact ⟨rfl, HB3.out⟩

end Go.Proofs.YtbljopjjmlacpaaDoor

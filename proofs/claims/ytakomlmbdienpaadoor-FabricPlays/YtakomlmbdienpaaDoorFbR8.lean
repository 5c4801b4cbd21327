/- DERIVED of the program: the document's own fabric: Send by its contract. Own work. -/
import Derived.Test.YtakomlmbdienpaaDoorFbRA
import Derived.Test.YtakomlmbdienpaaDoorSgQS
namespace Go.Proofs.YtakomlmbdienpaaDoor
open Go.RowKit Go.Extern.Stop Go.Stop Go.Extern

theorem RWent.trans {w w1 w2 : World} {q cs rm : Nat} {S S1 S2 : List Nat} {P P' : List (List M13)} (h : RWent w w1 q S S1 cs rm P) (h' : RWent w1 w2 q S1 S2 cs rm P') : RWent w w2 q S S2 cs rm P' := by
  refine ⟨h'.p, ⟨h'.f.os.trans h.f.os, h'.f.tape.trans h.f.tape, h'.f.output.trans h.f.output, Nat.le_trans h.f.size h'.f.size, fun k hk hn => ?_⟩, fun k hk => ?_⟩
  · refine (h'.f.block k (Nat.lt_of_lt_of_le hk h.f.size) (fun h1 => ?_)).trans (h.f.block k hk hn)
    rcases h.s k h1 with h2 | h2
    · exact hn h2
    · omega
  · rcases h'.s k hk with h1 | h1
    · exact h.s k h1
    · exact .inr (Nat.le_trans h.f.size h1)

set_option maxHeartbeats 6400000 in
set_option maxRecDepth 20000 in
theorem rfsend_c (w : World) (q cs rm : Nat) (S : List Nat) (P : List (List M13)) (hF : RFab w q S cs rm P) (ao : Option Addr) (n cap : Nat) (L : List M13) (hL : Rows' 13 w ao cap (L.map mc)) (hn : L.length = n) (hIn : InB L) (hlen : n ≤ 1000) (hsep : ∀ k, oblk ao = some k → k ∉ S) (cd kk : Nat) (hc : fitsF cs rm P L = (cd, kk)) (P' : List (List M13)) (hP' : sentF cs rm P L = P') :
    Calls Tryd.prog 19 #[.pointer (some ⟨q, 0, none⟩), .slice ao n cap] w fun r w' => r = .returned (.tuple #[.int .i64 (cd : Int), .int .i64 (kk : Int)]) ∧ ∃ S', RWent w w' q S S' cs rm P' := by
  have hq := hF.mem q hF.q
  obtain ⟨hc0, hc1⟩ := hF.hd
  have HF := Hid.in hF
  have HL := Hid.in hL
  have HIn := Hid.in hIn
  have HLn := Hid.in hn
  have HSep := Hid.in hsep
  have HC := Hid.in hc
  have HP' := Hid.in hP'
  have HS : Hid (cd ≠ 0 → P = P') := Hid.in (fun h => by rw [← hP']; unfold sentF; rw [hc, if_neg h])
  have hqg : ∀ wr, Below w.heap.size w wr → wr.cell? ⟨q, 0, none⟩ = some (.int .i64 (cs : Int)) ∧ wr.cell? ⟨q, 1, none⟩ = some (.int .i64 (rm : Int)) := fun wr hb =>
    ⟨(hb.cell (p := ⟨q, 0, none⟩) hq).trans hc0, (hb.cell (p := ⟨q, 1, none⟩) hq).trans hc1⟩
  have HG := Hid.in hqg
  obtain ⟨f, hfi, hfx⟩ := hF.ptrs
  have HFI := Hid.in hfi
  have HFX := Hid.in hfx
  have hcs1 := hF.ok.cs1
  have hroom := hF.ok.room
  have hrm := hF.ok.rm64
  have hPl := hF.ok.len
  have HRO := Hid.in hroom
  have HPL := Hid.in hPl
  clear hfi hfx hroom hPl
  clear hF hL hIn hn hc hP' hqg hc0 hc1 hsep
  go_enter Tryd.func19, Tryd.ntmps19
  go_wp2
  go_loopw [18] (fun x wr => ∃ i : Nat, i ≤ n ∧ x = .int .i64 (i : Int) ∧ (∀ (j : Nat) (m : M13), j < i → L[j]? = some m → okM cs m = true) ∧ Below w.heap.size w wr) (fun x _ => 2000 - (intOf x).toNat)
  case atStart => exact ⟨0, Nat.zero_le _, rfl, fun j _ hj => absurd hj (Nat.not_lt_zero _), Below.refl _ _⟩
  case round =>
    obtain ⟨i, hi, rfl, hok, hb⟩ := hrel
    have HOK := Hid.in hok
    have HB := Hid.in hb
    clear hok hb
    by_cases hlt : i < n
    · as_aux_lemma =>
        obtain ⟨mb, mo, m, rfl, hm, hRg⟩ := (HL.out.step HB.out).msg i (by rw [HLn.out]; exact hlt)
        obtain ⟨h32, h64⟩ := HIn.out.at hm
        have HM := Hid.in hm
        have HRg := Hid.in hRg
        obtain ⟨rb, hrb⟩ : ∃ b, rtB m = b := ⟨_, rfl⟩
        have HRt : Hid (∀ y, Calls Tryd.prog 37 #[.agg (mv m)] y fun r w' => r = .returned (.bool rb) ∧ Below y.heap.size y w') := Hid.in (fun y => by rw [← hrb]; exact qsRight_any m y h64)
        have HRB := Hid.in hrb
        clear hm hRg h32 h64 hrb
        obtain ⟨k, c, l, t, o, e, w_, v, d0, d1, d2, d3, h⟩ := m
        simp only [mv_eq] at HRt
        have i1 : (i : Int) < (n : Int) := by omega
        go_upto_region 4 with (first | (refine wpList_load_mid rfl 32 (.tmp 21) rfl mb (mo + i * 13) rfl (mc (k, c, l, t, o, e, w_, v, d0, d1, d2, d3, h)) _ HRg.out Tryd.underlying32 rfl (by rw [mc_len]; exact Tryd.sizeMsg) ?_; simp only [mc_arr, mv_eq]) | fail)
        generalize hW : (wr.alloc (.cells #[.int .i64 k, .int .i64 c, .int .i64 l, .int .i64 t, .int .i64 o, .int .i64 e, .int .i64 w_, .int .u32 v, .int .u32 d0, .int .u32 d1, .int .u32 d2, .int .u32 d3, .bool h] 32)) = W
        have hBK : W.heap[wr.heap.size]? = some (.cells #[.int .i64 k, .int .i64 c, .int .i64 l, .int .i64 t, .int .i64 o, .int .i64 e, .int .i64 w_, .int .u32 v, .int .u32 d0, .int .u32 d1, .int .u32 d2, .int .u32 d3, .bool h] 32 (0, 0)) := by rw [← hW]; exact heap_alloc_new _ _
        have hbW : Below w.heap.size w W := by rw [← hW]; exact bstep HB.out (Nat.le_refl _) (below_alloc _ _)
        have HBW := Hid.in hbW
        clear hW
        have n0 : ∀ n : Kin (fun X => Below W.heap.size W X), n.of.cell? ⟨wr.heap.size, 0, none⟩ = some (.int .i64 k) := fun n => (n.in.cell (p := ⟨wr.heap.size, 0, none⟩) (blk_lt hBK)).trans (blk_cell hBK rfl)
        have n1 : ∀ n : Kin (fun X => Below W.heap.size W X), n.of.cell? ⟨wr.heap.size, 1, none⟩ = some (.int .i64 c) := fun n => (n.in.cell (p := ⟨wr.heap.size, 1, none⟩) (blk_lt hBK)).trans (blk_cell hBK rfl)
        have n2 : ∀ n : Kin (fun X => Below W.heap.size W X), n.of.cell? ⟨wr.heap.size, 2, none⟩ = some (.int .i64 l) := fun n => (n.in.cell (p := ⟨wr.heap.size, 2, none⟩) (blk_lt hBK)).trans (blk_cell hBK rfl)
        have n3 : ∀ n : Kin (fun X => Below W.heap.size W X), n.of.cell? ⟨wr.heap.size, 3, none⟩ = some (.int .i64 t) := fun n => (n.in.cell (p := ⟨wr.heap.size, 3, none⟩) (blk_lt hBK)).trans (blk_cell hBK rfl)
        have n4 : ∀ n : Kin (fun X => Below W.heap.size W X), n.of.cell? ⟨wr.heap.size, 4, none⟩ = some (.int .i64 o) := fun n => (n.in.cell (p := ⟨wr.heap.size, 4, none⟩) (blk_lt hBK)).trans (blk_cell hBK rfl)
        have n5 : ∀ n : Kin (fun X => Below W.heap.size W X), n.of.cell? ⟨wr.heap.size, 5, none⟩ = some (.int .i64 e) := fun n => (n.in.cell (p := ⟨wr.heap.size, 5, none⟩) (blk_lt hBK)).trans (blk_cell hBK rfl)
        have n6 : ∀ n : Kin (fun X => Below W.heap.size W X), n.of.cell? ⟨wr.heap.size, 6, none⟩ = some (.int .i64 w_) := fun n => (n.in.cell (p := ⟨wr.heap.size, 6, none⟩) (blk_lt hBK)).trans (blk_cell hBK rfl)
        have n7 : ∀ n : Kin (fun X => Below W.heap.size W X), n.of.cell? ⟨wr.heap.size, 7, none⟩ = some (.int .u32 v) := fun n => (n.in.cell (p := ⟨wr.heap.size, 7, none⟩) (blk_lt hBK)).trans (blk_cell hBK rfl)
        have n8 : ∀ n : Kin (fun X => Below W.heap.size W X), n.of.cell? ⟨wr.heap.size, 8, none⟩ = some (.int .u32 d0) := fun n => (n.in.cell (p := ⟨wr.heap.size, 8, none⟩) (blk_lt hBK)).trans (blk_cell hBK rfl)
        have n9 : ∀ n : Kin (fun X => Below W.heap.size W X), n.of.cell? ⟨wr.heap.size, 9, none⟩ = some (.int .u32 d1) := fun n => (n.in.cell (p := ⟨wr.heap.size, 9, none⟩) (blk_lt hBK)).trans (blk_cell hBK rfl)
        have n10 : ∀ n : Kin (fun X => Below W.heap.size W X), n.of.cell? ⟨wr.heap.size, 10, none⟩ = some (.int .u32 d2) := fun n => (n.in.cell (p := ⟨wr.heap.size, 10, none⟩) (blk_lt hBK)).trans (blk_cell hBK rfl)
        have n11 : ∀ n : Kin (fun X => Below W.heap.size W X), n.of.cell? ⟨wr.heap.size, 11, none⟩ = some (.int .u32 d3) := fun n => (n.in.cell (p := ⟨wr.heap.size, 11, none⟩) (blk_lt hBK)).trans (blk_cell hBK rfl)
        have n12 : ∀ n : Kin (fun X => Below W.heap.size W X), n.of.cell? ⟨wr.heap.size, 12, none⟩ = some (.bool h) := fun n => (n.in.cell (p := ⟨wr.heap.size, 12, none⟩) (blk_lt hBK)).trans (blk_cell hBK rfl)
        have nq : ∀ n : Kin (fun X => Below W.heap.size W X), n.of.cell? ⟨q, 0, none⟩ = some (.int .i64 (cs : Int)) := fun n => (HG.out _ (bstep HBW.out (Nat.le_refl _) n.in)).1
        clear hBK hbW
        cases rb with
        | false =>
          as_aux_lemma =>
            refine wp_region_kin (C := fun X => Below W.heap.size W X) (by kernel_rfl) (by kernel_rfl) (Below.refl _ _).drew (fun hne' => ?_)
            repeat (go_big_quiet_step (first | (go_at_call 37; exact Kin.below (Nat.le_refl _) _ (HRt.out _))))
            refine wpQuiet_nil ?_
            rintro w6 ⟨n, rfl⟩
            have hb6 := bstep HBW.out (Nat.le_refl _) n.in
            have HB6 := Hid.in hb6
            clear hb6 n0 n1 n2 n3 n4 n5 n6 n7 n8 n9 n10 n11 n12 nq
            go_wp2
            go_ret2
            have hbad := badF_some (cs := cs) HOK.out ⟨_, HM.out, by unfold okM; rw [HRB.out]; rfl⟩
            have hcc := HC.out
            have hs := HS.out
            rw [fitsF_bad hbad] at hcc
            cases hcc
            exact ⟨rfl, S, by rw [← hs (by decide)]; exact RWent.same HF.out HB6.out⟩
        | true =>
          by_cases hcc : c < (cs : Int)
          · as_aux_lemma =>
            have hge : ¬ (cs : Int) ≤ c := by omega
            have hge2 : ¬ c ≥ (cs : Int) := by omega
            refine wp_region_kin (C := fun X => Below W.heap.size W X) (by kernel_rfl) (by kernel_rfl) (Below.refl _ _).drew (fun hne' => ?_)
            repeat (go_big_quiet_step (first | (go_at_call 37; exact Kin.below (Nat.le_refl _) _ (HRt.out _))))
            refine wpQuiet_nil ?_
            rintro w6 ⟨n, rfl⟩
            have hb6 := bstep HBW.out (Nat.le_refl _) n.in
            have HB6 := Hid.in hb6
            clear hb6 n0 n1 n2 n3 n4 n5 n6 n7 n8 n9 n10 n11 n12 nq
            have HCC := Hid.in hcc
            clear hcc
            go_wp2
            go_roundw
            case rel =>
              refine ⟨i + 1, by omega, by go_num, fun j x hj hx => ?_, HB6.out⟩
              rcases Nat.lt_or_ge j i with h1 | h1
              · exact HOK.out j x h1 hx
              · obtain rfl : j = i := by omega
                rw [HM.out] at hx
                cases hx
                unfold okM
                rw [HRB.out]
                simp [HCC.out]
            case measure => simp [intOf]; omega
          · as_aux_lemma =>
            have hge : (cs : Int) ≤ c := by omega
            refine wp_region_kin (C := fun X => Below W.heap.size W X) (by kernel_rfl) (by kernel_rfl) (Below.refl _ _).drew (fun hne' => ?_)
            repeat (go_big_quiet_step (first | (go_at_call 37; exact Kin.below (Nat.le_refl _) _ (HRt.out _))))
            refine wpQuiet_nil ?_
            rintro w6 ⟨n, rfl⟩
            have hb6 := bstep HBW.out (Nat.le_refl _) n.in
            have HB6 := Hid.in hb6
            clear hb6 n0 n1 n2 n3 n4 n5 n6 n7 n8 n9 n10 n11 n12 nq
            have HCC := Hid.in hcc
            clear hcc hge
            go_wp2
            go_ret2
            have hbad := badF_some (cs := cs) HOK.out ⟨_, HM.out, by unfold okM; rw [HRB.out]; simp; have := HCC.out; omega⟩
            have hcc := HC.out
            have hs := HS.out
            rw [fitsF_bad hbad] at hcc
            cases hcc
            exact ⟨rfl, S, by rw [← hs (by decide)]; exact RWent.same HF.out HB6.out⟩
    · as_aux_lemma =>
        obtain rfl : i = n := by omega
        have HA : Hid (∀ (j : Nat) (m : M13), L[j]? = some m → okM cs m = true) := Hid.in (fun j m hm => HOK.out j m (by have := (List.getElem?_eq_some_iff.1 hm).1; rw [HLn.out] at this; exact this) hm)
        clear HOK hlt hi
        obtain ⟨wo, hwo⟩ : ∃ x, x = wr := ⟨_, rfl⟩
        subst hwo
        go_wp2
        go_loopw [39] (fun x wr => ∃ i2 : Nat, i2 ≤ i ∧ x = .int .i64 (i2 : Int) ∧ (∀ (j : Nat) (m : M13), j < i2 → L[j]? = some m → lenF (putsF cs P (L.take j)) (thM cs m) < rm) ∧ Below w.heap.size w wr) (fun x _ => 2000 - (intOf x).toNat)
        case atStart => exact ⟨0, Nat.zero_le _, rfl, fun j _ hj => absurd hj (Nat.not_lt_zero _), HB.out⟩
        case round =>
          obtain ⟨i2, hi2, rfl, hfit, hb2⟩ := hrel
          have HFIT := Hid.in hfit
          have HB2 := Hid.in hb2
          clear hfit hb2
          by_cases hlt2 : i2 < i
          · as_aux_lemma =>
              obtain ⟨mb, mo, m, rfl, hm, hRg⟩ := (HL.out.step HB2.out).msg i2 (by rw [HLn.out]; exact hlt2)
              have hokm := HA.out i2 m hm
              obtain ⟨im, hrm1, him4, hlr⟩ := okM_rp hokm hcs1
              have HM := Hid.in hm
              have HRg := Hid.in hRg
              have HOKm := Hid.in hokm
              have HRM1 := Hid.in hrm1
              have HLR := Hid.in hlr
              clear hm hRg hokm hrm1 hlr
              obtain ⟨k, c, l, t, o, e, w_, v, d0, d1, d2, d3, h⟩ := m
              obtain ⟨pk, hpk⟩ : ∃ p, poolS k = p := ⟨_, rfl⟩
              have HPk : Hid (∀ y, Calls Tryd.prog 39 #[.int .i64 k] y fun r w' => r = .returned (.int .i64 pk) ∧ w' = y) := Hid.in (fun y => by rw [← hpk]; exact qsPool_any k y)
              have HRMp : Hid (rpN cs pk c = some im) := Hid.in (by rw [← hpk]; exact HRM1.out)
              obtain ⟨pm, om, hfm⟩ : ∃ a b, f im = (a, b) := ⟨_, _, rfl⟩
              have HFm := Hid.in hfm
              clear hpk hfm
              have ii1 : (i2 : Int) < (i : Int) := by omega
              go_upto_region 10 with (first | (refine wpList_load_mid rfl 32 (.tmp 42) rfl mb (mo + i2 * 13) rfl (mc (k, c, l, t, o, e, w_, v, d0, d1, d2, d3, h)) _ HRg.out Tryd.underlying32 rfl (by rw [mc_len]; exact Tryd.sizeMsg) ?_; simp only [mc_arr, mv_eq]) | fail)
              generalize hW : (wr.alloc (.cells #[.int .i64 k, .int .i64 c, .int .i64 l, .int .i64 t, .int .i64 o, .int .i64 e, .int .i64 w_, .int .u32 v, .int .u32 d0, .int .u32 d1, .int .u32 d2, .int .u32 d3, .bool h] 32)) = W
              have hBK : W.heap[wr.heap.size]? = some (.cells #[.int .i64 k, .int .i64 c, .int .i64 l, .int .i64 t, .int .i64 o, .int .i64 e, .int .i64 w_, .int .u32 v, .int .u32 d0, .int .u32 d1, .int .u32 d2, .int .u32 d3, .bool h] 32 (0, 0)) := by rw [← hW]; exact heap_alloc_new _ _
              have hbW : Below w.heap.size w W := by rw [← hW]; exact bstep HB2.out (Nat.le_refl _) (below_alloc _ _)
              have HBW := Hid.in hbW
              have HBK := Hid.in hBK
              clear hW
              have n0 : ∀ n : Kin (fun X => Below W.heap.size W X), n.of.cell? ⟨wr.heap.size, 0, none⟩ = some (.int .i64 k) := fun n => (n.in.cell (p := ⟨wr.heap.size, 0, none⟩) (blk_lt hBK)).trans (blk_cell hBK rfl)
              have n1 : ∀ n : Kin (fun X => Below W.heap.size W X), n.of.cell? ⟨wr.heap.size, 1, none⟩ = some (.int .i64 c) := fun n => (n.in.cell (p := ⟨wr.heap.size, 1, none⟩) (blk_lt hBK)).trans (blk_cell hBK rfl)
              obtain ⟨rao, rcap, hrc, hblk⟩ := (HFX.out W hbW).2 im him4
              have HBlM : Hid (∃ cur, W.heap[pm]? = some (.cells cur 44 (0, 0))) := Hid.in (by rw [HFm.out] at hblk; exact hblk)
              clear hblk
              rw [HLR.out, HFm.out] at hrc
              have nr : ∀ n : Kin (fun X => Below W.heap.size W X), n.of.cell? ⟨pm, om, none⟩ = some (.slice rao (lenF P (thM cs (k, c, l, t, o, e, w_, v, d0, d1, d2, d3, h))) rcap) := fun n => (n.in.cell (p := ⟨pm, om, none⟩) (lt_cell hrc)).trans hrc
              have HRoM : Hid (∀ X, Below W.heap.size W X → Calls Tryd.prog 38 #[.pointer (some ⟨q, 0, none⟩), .int .i64 pk, .int .i64 c] X fun r w' => r = .returned (.pointer (some ⟨pm, om, none⟩)) ∧ w' = X) := Hid.in (fun X hX => by
                have h1 := (HFX.out X (bstep HBW.out (Nat.le_refl _) hX)).1 _ _ im HRMp.out him4
                rw [HFm.out] at h1
                exact h1)
              have HRo : Hid (∀ n : Kin (fun X => Below W.heap.size W X), Calls Tryd.prog 38 #[.pointer (some ⟨q, 0, none⟩), .int .i64 pk, .int .i64 c] n.of fun r w' => r = .returned (.pointer (some ⟨pm, om, none⟩)) ∧ w' = n.of) := Hid.in (fun n => HRoM.out n.of n.in)
              clear hBK hbW hrc
              refine wp_region_kin (C := fun X => Below W.heap.size W X) (by kernel_rfl) (by kernel_rfl) (Below.refl _ _).drew (fun hne' => ?_)
              repeat (go_big_quiet_step (first | (go_at_call 39; exact Kin.same _ (HPk.out _)) | (go_at_call 38; exact Kin.same _ (HRo.out _))))
              refine wpQuiet_nil ?_
              rintro w6 ⟨n6, rfl⟩
              have hb6 := n6.in
              generalize n6.of = w6 at hb6
              have HB6 := Hid.in hb6
              clear hb6 n0 n1 nr
              have hle := HL.out.le
              rw [List.length_map, HLn.out] at hle
              have hs1 := slice_toM mb mo i cap i2 (by omega)
              have hl64 := HRO.out (thM cs (k, c, l, t, o, e, w_, v, d0, d1, d2, d3, h))
              obtain ⟨t0, ht0⟩ : ∃ t0, thM cs (k, c, l, t, o, e, w_, v, d0, d1, d2, d3, h) = t0 := ⟨_, rfl⟩
              rw [ht0] at hl64 ⊢
              have HT0 := Hid.in ht0
              clear ht0
              obtain ⟨wo2, hwo2⟩ : ∃ x, x = wr := ⟨_, rfl⟩
              subst hwo2
              go_wp2
              go_loopw [10, 58] (fun v x wv => ∃ j : Nat, j ≤ i2 ∧ v = .int .i64 ((lenF P t0 + cntF cs (L.take j) t0 : Nat) : Int) ∧ x = .int .i64 (j : Int) ∧ Below W.heap.size W wv) (fun _ x _ => 2000 - (intOf x).toNat)
              case atStart => exact ⟨0, Nat.zero_le _, by simp [cntF], rfl, HB6.out⟩
              case round =>
                obtain ⟨j, hj, rfl, rfl, hb3⟩ := hrel
                have HB3 := Hid.in hb3
                clear hb3
                have hcl : cntF cs (L.take j) t0 ≤ j := Nat.le_trans List.countP_le_length (by rw [List.length_take]; omega)
                by_cases hlt3 : j < i2
                · as_aux_lemma =>
                    obtain ⟨mb', mo', m', hmm, hm', hRg'⟩ := (HL.out.step (bstep HBW.out (Nat.le_refl _) HB3.out)).msg j (by rw [HLn.out]; omega)
                    cases hmm
                    have hokm' := HA.out j m' hm'
                    obtain ⟨ia, hra, hia4, _⟩ := okM_rp hokm' hcs1
                    have hinj := okM_rp_inj hokm' HOKm.out hcs1 hra HRM1.out
                    rw [HT0.out] at hinj
                    have hct := cntF_take (cs := cs) (t := t0) hm'
                    have HRA := Hid.in hra
                    have HRg' := Hid.in hRg'
                    have HIJ := Hid.in hinj
                    have HCT := Hid.in hct
                    clear hm' hRg' hokm' hra hinj hct
                    obtain ⟨a0, a1, a2, a3, a4, a5, a6, a7, a8, a9, a10, a11, a12⟩ := m'
                    obtain ⟨pk', hpk'⟩ : ∃ p, poolS a0 = p := ⟨_, rfl⟩
                    have HPk' : Hid (∀ y, Calls Tryd.prog 39 #[.int .i64 a0] y fun r w' => r = .returned (.int .i64 pk') ∧ w' = y) := Hid.in (fun y => by rw [← hpk']; exact qsPool_any a0 y)
                    have HRAp : Hid (rpN cs pk' a1 = some ia) := Hid.in (by rw [← hpk']; exact HRA.out)
                    obtain ⟨pa, oa, hfa⟩ : ∃ a b, f ia = (a, b) := ⟨_, _, rfl⟩
                    have HFa := Hid.in hfa
                    have HRoA : Hid (∀ X, Below W.heap.size W X → Calls Tryd.prog 38 #[.pointer (some ⟨q, 0, none⟩), .int .i64 pk', .int .i64 a1] X fun r w' => r = .returned (.pointer (some ⟨pa, oa, none⟩)) ∧ w' = X) := Hid.in (fun X hX => by
                      have h1 := (HFX.out X (bstep HBW.out (Nat.le_refl _) hX)).1 _ _ ia HRAp.out hia4
                      rw [HFa.out] at h1
                      exact h1)
                    clear hpk' hfa
                    have j1 : (j : Int) < (i2 : Int) := by omega
                    go_upto_region 14 with (first | (refine wpList_load_mid rfl 32 (.tmp 60) rfl mb (mo + j * 13) rfl (mc (a0, a1, a2, a3, a4, a5, a6, a7, a8, a9, a10, a11, a12)) _ HRg'.out Tryd.underlying32 rfl (by rw [mc_len]; exact Tryd.sizeMsg) ?_; simp only [mc_arr, mv_eq]) | fail)
                    generalize hW2 : (wr.alloc (.cells #[.int .i64 a0, .int .i64 a1, .int .i64 a2, .int .i64 a3, .int .i64 a4, .int .i64 a5, .int .i64 a6, .int .u32 a7, .int .u32 a8, .int .u32 a9, .int .u32 a10, .int .u32 a11, .bool a12] 32)) = W2
                    have hBK2 : W2.heap[wr.heap.size]? = some (.cells #[.int .i64 a0, .int .i64 a1, .int .i64 a2, .int .i64 a3, .int .i64 a4, .int .i64 a5, .int .i64 a6, .int .u32 a7, .int .u32 a8, .int .u32 a9, .int .u32 a10, .int .u32 a11, .bool a12] 32 (0, 0)) := by rw [← hW2]; exact heap_alloc_new _ _
                    have hbW2 : Below W.heap.size W W2 := by rw [← hW2]; exact bstep HB3.out (Nat.le_refl _) (below_alloc _ _)
                    have HBW2 := Hid.in hbW2
                    have hBK9 := (hbW2.block _ (blk_lt HBK.out)).trans HBK.out
                    clear hW2
                    have b0 : ∀ n : Kin (fun X => Below W2.heap.size W2 X), n.of.cell? ⟨wr.heap.size, 0, none⟩ = some (.int .i64 a0) := fun n => (n.in.cell (p := ⟨wr.heap.size, 0, none⟩) (blk_lt hBK2)).trans (blk_cell hBK2 rfl)
                    have b1 : ∀ n : Kin (fun X => Below W2.heap.size W2 X), n.of.cell? ⟨wr.heap.size, 1, none⟩ = some (.int .i64 a1) := fun n => (n.in.cell (p := ⟨wr.heap.size, 1, none⟩) (blk_lt hBK2)).trans (blk_cell hBK2 rfl)
                    have n0 : ∀ n : Kin (fun X => Below W2.heap.size W2 X), n.of.cell? ⟨wo2.heap.size, 0, none⟩ = some (.int .i64 k) := fun n => (n.in.cell (p := ⟨wo2.heap.size, 0, none⟩) (blk_lt hBK9)).trans (blk_cell hBK9 rfl)
                    have n1 : ∀ n : Kin (fun X => Below W2.heap.size W2 X), n.of.cell? ⟨wo2.heap.size, 1, none⟩ = some (.int .i64 c) := fun n => (n.in.cell (p := ⟨wo2.heap.size, 1, none⟩) (blk_lt hBK9)).trans (blk_cell hBK9 rfl)
                    have HRo2 : Hid (∀ n : Kin (fun X => Below W2.heap.size W2 X), Calls Tryd.prog 38 #[.pointer (some ⟨q, 0, none⟩), .int .i64 pk', .int .i64 a1] n.of fun r w' => r = .returned (.pointer (some ⟨pa, oa, none⟩)) ∧ w' = n.of) := Hid.in (fun n => HRoA.out n.of (bstep HBW2.out (Nat.le_refl _) n.in))
                    have HRo9 : Hid (∀ n : Kin (fun X => Below W2.heap.size W2 X), Calls Tryd.prog 38 #[.pointer (some ⟨q, 0, none⟩), .int .i64 pk, .int .i64 c] n.of fun r w' => r = .returned (.pointer (some ⟨pm, om, none⟩)) ∧ w' = n.of) := Hid.in (fun n => HRoM.out n.of (bstep HBW2.out (Nat.le_refl _) n.in))
                    clear hBK2 hBK9 hbW2
                    by_cases hsame : ia = im
                    · as_aux_lemma =>
                      subst hsame
                      obtain ⟨e1, e2⟩ : pa = pm ∧ oa = om := by have h1 := HFa.out; rw [HFm.out] at h1; cases h1; exact ⟨rfl, rfl⟩
                      subst e1 e2
                      have heql : ∀ n : Kin (fun X => Below W2.heap.size W2 X), (binOp .eql 75 (.pointer (some ⟨pa, oa, none⟩)) (.pointer (some ⟨pa, oa, none⟩))).run Tryd.prog n.of = .ok (.bool true) n.of := fun n => eqlP_same _ _
                      refine wp_region_kin (C := fun X => Below W2.heap.size W2 X) (by kernel_rfl) (by kernel_rfl) (Below.refl _ _).drew (fun hne' => ?_)
                      iterate 7 (go_big_quiet_step (first | (go_at_call 39; exact Kin.same _ (HPk'.out _)) | (go_at_call 38; exact Kin.same _ (HRo2.out _))))
                      repeat (go_big_quiet_step (first | (go_at_call 39; exact Kin.same _ (HPk.out _)) | (go_at_call 38; exact Kin.same _ (HRo9.out _))))
                      refine wpQuiet_nil ?_
                      rintro w7 ⟨n7, rfl⟩
                      have hb7 := n7.in
                      generalize n7.of = w7 at hb7
                      have HB7 := Hid.in (bstep HBW2.out (Nat.le_refl _) hb7)
                      clear hb7 b0 b1 n0 n1
                      clear heql
                      have hone : thM cs (a0, a1, a2, a3, a4, a5, a6, a7, a8, a9, a10, a11, a12) = t0 := HIJ.out.1 rfl
                      have HCT' : Hid (cntF cs (L.take (j + 1)) t0 = cntF cs (L.take j) t0 + 1) := Hid.in (by rw [HCT.out, if_pos hone])
                      clear hone
                      obtain ⟨cn, hcn⟩ : ∃ x, cntF cs (L.take j) t0 = x := ⟨_, rfl⟩
                      rw [hcn] at hcl HCT' ⊢
                      clear hcn
                      go_wp2
                      go_roundw
                      case rel => exact ⟨j + 1, by omega, by rw [HCT'.out]; go_num, by go_num, HB7.out⟩
                      case measure => simp [intOf]; omega
                    · as_aux_lemma =>
                      have hne : ¬ (pa = pm ∧ oa = om) := fun e => hsame (HFI.out ia im hia4 him4 (by rw [HFa.out, HFm.out, e.1, e.2]))
                      obtain ⟨_, _, _, hblk⟩ := (HFX.out W HBW.out).2 ia hia4
                      have HBlA : Hid (∃ cur, W.heap[pa]? = some (.cells cur 44 (0, 0))) := Hid.in (by rw [HFa.out] at hblk; exact hblk)
                      have heql : ∀ n : Kin (fun X => Below W2.heap.size W2 X), (binOp .eql 75 (.pointer (some ⟨pa, oa, none⟩)) (.pointer (some ⟨pm, om, none⟩))).run Tryd.prog n.of = .ok (.bool false) n.of := fun n => eqlP_other _ _ _ (fun e => hne (by cases e; exact ⟨rfl, rfl⟩)) (by
                        obtain ⟨cur, hcu⟩ := HBlA.out
                        exact ⟨cur, ((bstep HBW2.out (Nat.le_refl _) n.in).block _ (blk_lt hcu)).trans hcu⟩) (by
                        obtain ⟨cur, hcu⟩ := HBlM.out
                        exact ⟨cur, ((bstep HBW2.out (Nat.le_refl _) n.in).block _ (blk_lt hcu)).trans hcu⟩)
                      clear hblk hne
                      refine wp_region_kin (C := fun X => Below W2.heap.size W2 X) (by kernel_rfl) (by kernel_rfl) (Below.refl _ _).drew (fun hne' => ?_)
                      iterate 7 (go_big_quiet_step (first | (go_at_call 39; exact Kin.same _ (HPk'.out _)) | (go_at_call 38; exact Kin.same _ (HRo2.out _))))
                      repeat (go_big_quiet_step (first | (go_at_call 39; exact Kin.same _ (HPk.out _)) | (go_at_call 38; exact Kin.same _ (HRo9.out _))))
                      refine wpQuiet_nil ?_
                      rintro w7 ⟨n7, rfl⟩
                      have hb7 := n7.in
                      generalize n7.of = w7 at hb7
                      have HB7 := Hid.in (bstep HBW2.out (Nat.le_refl _) hb7)
                      clear hb7 b0 b1 n0 n1
                      clear heql
                      have hone : ¬ thM cs (a0, a1, a2, a3, a4, a5, a6, a7, a8, a9, a10, a11, a12) = t0 := fun h => hsame (HIJ.out.2 h)
                      have HCT' : Hid (cntF cs (L.take (j + 1)) t0 = cntF cs (L.take j) t0) := Hid.in (by rw [HCT.out, if_neg hone]; rfl)
                      clear hone hsame
                      go_wp2
                      go_roundw
                      case rel => exact ⟨j + 1, by omega, by rw [HCT'.out]; first | rfl | go_num, by go_num, HB7.out⟩
                      case measure => simp [intOf]; omega
                · as_aux_lemma =>
                    obtain rfl : j = i2 := by omega
                    have hcnt : lenF (putsF cs P (L.take j)) t0 = lenF P t0 + cntF cs (L.take j) t0 := lenF_putsF (fun x hx => by
                      obtain ⟨y, hy⟩ := List.getElem?_of_mem (List.mem_of_mem_take hx)
                      rw [HPL.out]; exact (okM_th (HA.out y x hy)).2)
                    have HCNT := Hid.in hcnt
                    obtain ⟨N, hN⟩ : ∃ N, lenF P t0 + cntF cs (L.take j) t0 = N := ⟨_, rfl⟩
                    rw [hN] at hcnt ⊢
                    have HN := Hid.in hN
                    have hN2 : N ≤ 2000 := by omega
                    have q1 := (HG.out _ (bstep HBW.out (Nat.le_refl _) HB3.out)).2
                    clear hcnt hN hlt3
                    by_cases hfull : rm ≤ N
                    · have hge : (N : Int) ≥ (rm : Int) := by omega
                      have hge2 : (rm : Int) ≤ (N : Int) := by omega
                      have hcc := HC.out
                      have hs := HS.out
                      have hbad : badF cs L = none := badF_none (fun y x hy => HA.out y x hy)
                      have hful : fullF cs rm P L = some j := fullF_some HFIT.out (fun m hm => by
                        rw [HM.out] at hm
                        cases hm
                        rw [HT0.out, HCNT.out, HN.out]
                        exact hfull) (by rw [HLn.out]; omega)
                      rw [fitsF_full hbad hful] at hcc
                      have HCC := Hid.in hcc
                      have HSS := Hid.in hs
                      clear hcc hs hbad hful
                      go_wp2
                      go_ret2
                      have hcc := HCC.out
                      cases hcc
                      exact ⟨rfl, S, by rw [← HSS.out (by decide)]; exact RWent.same HF.out (bstep HBW.out (Nat.le_refl _) HB3.out)⟩
                    · have hge : ¬ (N : Int) ≥ (rm : Int) := by omega
                      have hge2 : ¬ (rm : Int) ≤ (N : Int) := by omega
                      go_wp2
                      go_roundw
                      case rel =>
                        refine ⟨j + 1, by omega, by go_num, fun y m hy hm => ?_, bstep HBW.out (Nat.le_refl _) HB3.out⟩
                        rcases Nat.lt_or_ge y j with h1 | h1
                        · exact HFIT.out y m h1 hm
                        · obtain rfl : y = j := by omega
                          rw [HM.out] at hm
                          cases hm
                          rw [HT0.out, HCNT.out, HN.out]
                          omega
                      case measure => simp [intOf]; omega
          · as_aux_lemma =>
              obtain rfl : i2 = i := by omega
              have hbad : badF cs L = none := badF_none (fun y x hy => HA.out y x hy)
              have hful : fullF cs rm P L = none := fullF_none (fun y m hy => HFIT.out y m (by have := (List.getElem?_eq_some_iff.1 hy).1; rw [HLn.out] at this; exact this) hy)
              obtain ⟨rfl, rfl⟩ : cd = 0 ∧ kk = 0 := by have h1 := HC.out; rw [fitsF_ok hbad hful] at h1; cases h1; exact ⟨rfl, rfl⟩
              have HPP : Hid (putsF cs P L = P') := Hid.in (by rw [← HP'.out, sentF_ok (by rw [HC.out])])
              have HOk := Hid.in (fun y => HF.out.ok.part hbad hful y)
              clear hbad hful HFIT HS HC HP' HFI HFX hlt2 hi2
              obtain ⟨wo3, hwo3⟩ : ∃ x, x = wr := ⟨_, rfl⟩
              subst hwo3
              go_wp2
              go_loopw [90] (fun x wr => ∃ (i3 : Nat) (S1 : List Nat), i3 ≤ i2 ∧ x = .int .i64 (i3 : Int) ∧ RWent w wr q S S1 cs rm (putsF cs P (L.take i3))) (fun x _ => 2000 - (intOf x).toNat)
              case atStart => exact ⟨0, S, Nat.zero_le _, rfl, RWent.same HF.out HB2.out⟩
              case round =>
                obtain ⟨i3, S1, hi3, rfl, hT⟩ := hrel
                have HT := Hid.in hT
                clear hT
                by_cases hlt3 : i3 < i2
                · as_aux_lemma =>
                    obtain ⟨mb, mo, m, rfl, hm, hRg⟩ := (HL.out.fr HT.out.f HSep.out).msg i3 (by rw [HLn.out]; omega)
                    have hokm := HA.out i3 m hm
                    obtain ⟨hpl, hth⟩ := okM_th hokm
                    obtain ⟨im, hrm1, him4, _⟩ := okM_rp hokm hcs1
                    obtain ⟨p, hp⟩ : ∃ p, thM cs m = p := ⟨_, rfl⟩
                    rw [hp] at hpl hth
                    obtain ⟨sb, so, ap, cp, hsq, hap1, hap2, hwhere, ks, kf, hO, hupd⟩ := HT.out.p.row hrm1 hpl
                    obtain ⟨hc0, _⟩ := HT.out.p.hd
                    have hqr := HT.out.p.mem q HT.out.p.q
                    have HP := Hid.in hp
                    have HM := Hid.in hm
                    have HRg := Hid.in hRg
                    have HRo : Hid (∀ X, Below wr.heap.size wr X → Calls Tryd.prog 38 #[.pointer (some ⟨q, 0, none⟩), .int .i64 (poolS m.1), .int .i64 m.2.1] X fun r w' => r = .returned (.pointer (some ⟨sb, so, none⟩)) ∧ w' = X) := Hid.in (fun X hX => by
                      obtain ⟨a, cp', ha4, ha, hso, hcell⟩ := hwhere
                      exact rfrow_in X q cs ((hX.cell (p := ⟨q, 0, none⟩) hqr).trans hc0) hcs1 _ _ im sb so hrm1 ⟨a, cp', ha4, ha, hso, (hX.cell (p := ⟨q, 2 + a, none⟩) hqr).trans hcell⟩)
                    have HUpd := Hid.in hupd
                    have HO := Hid.in hO
                    have hapl : ∀ k, oblk ap = some k → k < wr.heap.size := fun k hk => by obtain ⟨_, cu, h1⟩ := hO.blk k hk; exact blk_lt h1
                    have hlenp : lenF (putsF cs P (L.take i3)) p ≤ 64 := by have := HT.out.p.ok.room p; omega
                    clear hm hRg hokm hrm1 hpl hp hwhere hO hupd hc0
                    obtain ⟨pk, hpk⟩ : ∃ x, poolS m.1 = x := ⟨_, rfl⟩
                    have HPk : Hid (∀ y, Calls Tryd.prog 39 #[.int .i64 m.1] y fun r w' => r = .returned (.int .i64 pk) ∧ w' = y) := Hid.in (fun y => by rw [← hpk]; exact qsPool_any m.1 y)
                    rw [hpk] at HRo
                    clear hpk
                    obtain ⟨k, c, l, t, o, e, w_, v, d0, d1, d2, d3, h⟩ := m
                    simp only at HRo HPk
                    have i1 : (i3 : Int) < (i2 : Int) := by omega
                    go_upto_region 23 with (first | (refine wpList_load_mid rfl 32 (.tmp 92) rfl mb (mo + i3 * 13) rfl (mc (k, c, l, t, o, e, w_, v, d0, d1, d2, d3, h)) _ HRg.out Tryd.underlying32 rfl (by rw [mc_len]; exact Tryd.sizeMsg) ?_; simp only [mc_arr, mv_eq]) | fail)
                    generalize hW : (wr.alloc (.cells #[.int .i64 k, .int .i64 c, .int .i64 l, .int .i64 t, .int .i64 o, .int .i64 e, .int .i64 w_, .int .u32 v, .int .u32 d0, .int .u32 d1, .int .u32 d2, .int .u32 d3, .bool h] 32)) = W
                    have hBK : W.heap[wr.heap.size]? = some (.cells #[.int .i64 k, .int .i64 c, .int .i64 l, .int .i64 t, .int .i64 o, .int .i64 e, .int .i64 w_, .int .u32 v, .int .u32 d0, .int .u32 d1, .int .u32 d2, .int .u32 d3, .bool h] 32 (0, 0)) := by rw [← hW]; exact heap_alloc_new _ _
                    have hbW : Below wr.heap.size wr W := by rw [← hW]; exact below_alloc _ _
                    have HBW := Hid.in hbW
                    have HBK := Hid.in hBK
                    clear hW
                    have n0 : ∀ n : Kin (fun X => Below W.heap.size W X), n.of.cell? ⟨wr.heap.size, 0, none⟩ = some (.int .i64 k) := fun n => (n.in.cell (p := ⟨wr.heap.size, 0, none⟩) (blk_lt hBK)).trans (blk_cell hBK rfl)
                    have n1 : ∀ n : Kin (fun X => Below W.heap.size W X), n.of.cell? ⟨wr.heap.size, 1, none⟩ = some (.int .i64 c) := fun n => (n.in.cell (p := ⟨wr.heap.size, 1, none⟩) (blk_lt hBK)).trans (blk_cell hBK rfl)
                    have HRoK : Hid (∀ n : Kin (fun X => Below W.heap.size W X), Calls Tryd.prog 38 #[.pointer (some ⟨q, 0, none⟩), .int .i64 pk, .int .i64 c] n.of fun r w' => r = .returned (.pointer (some ⟨sb, so, none⟩)) ∧ w' = n.of) := Hid.in (fun n => HRo.out n.of (bstep HBW.out (Nat.le_refl _) n.in))
                    clear hBK hbW
                    refine wp_region_kin (C := fun X => Below W.heap.size W X) (by kernel_rfl) (by kernel_rfl) (Below.refl _ _).drew (fun hne' => ?_)
                    repeat (go_big_quiet_step (first | (go_at_call 39; exact Kin.same _ (HPk.out _)) | (go_at_call 38; exact Kin.same _ (HRoK.out _))))
                    refine wpQuiet_nil ?_
                    rintro w6 ⟨n6, rfl⟩
                    have hb6 := n6.in
                    generalize n6.of = w6 at hb6
                    have HB6 := Hid.in (bstep HBW.out (Nat.le_refl _) hb6)
                    have HR6 : Hid (w6.rangeAt wr.heap.size 0 (mc (k, c, l, t, o, e, w_, v, d0, d1, d2, d3, h))) := Hid.in (fun j u hj => by
                      have h1 : w6.heap[wr.heap.size]? = some (.cells #[.int .i64 k, .int .i64 c, .int .i64 l, .int .i64 t, .int .i64 o, .int .i64 e, .int .i64 w_, .int .u32 v, .int .u32 d0, .int .u32 d1, .int .u32 d2, .int .u32 d3, .bool h] 32 (0, 0)) := (hb6.block _ (blk_lt HBK.out)).trans HBK.out
                      rw [Nat.zero_add]
                      refine blk_cell h1 ?_
                      rw [mc_eq] at hj
                      simpa using hj)
                    have HBl6 : Hid (wr.heap.size < w6.heap.size) := Hid.in (Nat.lt_of_lt_of_le (blk_lt HBK.out) hb6.size)
                    clear hb6 n0 n1 HRoK HRo HPk HBK
                    obtain ⟨R, hRw⟩ : ∃ R, (putsF cs P (L.take i3)).getD p [] = R := ⟨_, rfl⟩
                    obtain ⟨a, ha⟩ : ∃ a, lenF (putsF cs P (L.take i3)) p = a := ⟨_, rfl⟩
                    rw [ha] at ks HO hlenp
                    rw [hRw] at HO
                    have HRw := Hid.in hRw
                    have HAl : Hid (R.length = a) := Hid.in (by rw [← hRw, ← ha]; rfl)
                    have kept : ∀ X, wr.grownBy X (oblk ap) → X.cell? ⟨sb, so, none⟩ = some (.slice ap a cp) ∧ X.frozen? ⟨sb, so, none⟩ = false := by
                      intro X hX
                      have e2 := hX.block sb (lt_cell ks) (fun e => hap1 e.symm)
                      refine ⟨cell_grown ks hX (fun e => hap1 e.symm), ?_⟩
                      rw [← kf]; simp only [World.frozen?, e2]
                    have KEPT := Hid.in kept
                    have hapB : some wr.heap.size ≠ oblk ap := fun e => by have := hapl _ e.symm; omega
                    have HapB := Hid.in hapB
                    have RNG : Hid (∀ X, w6.grownBy X (oblk ap) → X.rangeAt wr.heap.size 0 (mc (k, c, l, t, o, e, w_, v, d0, d1, d2, d3, h))) := Hid.in (fun X hX => rangeAt_grown HR6.out hX HapB.out)
                    have HG6 : Hid (∀ X, w6.grownBy X (oblk ap) → wr.grownBy X (oblk ap)) := Hid.in (fun X hX => grown_trans' (grown_of_below HB6.out _) hX)
                    have HOx : Hid (OwnA 32 13 (w6.drew.alloc (.cells (lits [(k, c, l, t, o, e, w_, v, d0, d1, d2, d3, h)]) 32)) 0 ap a cp (R.map mc)) := Hid.in (HO.out.step (HB6.out.drew.alloc (by have := HB6.out.size; simpa using this) _))
                    have HRx : Hid (Rows' 13 (w6.drew.alloc (.cells (lits [(k, c, l, t, o, e, w_, v, d0, d1, d2, d3, h)]) 32)) (some ⟨w6.heap.size, 0, none⟩) 1 [mc (k, c, l, t, o, e, w_, v, d0, d1, d2, d3, h)]) := Hid.in (Rows'.lits w6.drew [(k, c, l, t, o, e, w_, v, d0, d1, d2, d3, h)])
                    have HGa : Hid (w6.grownBy (w6.drew.alloc (.cells (lits [(k, c, l, t, o, e, w_, v, d0, d1, d2, d3, h)]) 32)) (oblk ap)) := Hid.in (grown_of_below ((Below.refl w6.heap.size w6).drew.alloc (Nat.le_refl _) _) _)
                    have HGd : Hid (w6.grownBy w6.drew (oblk ap)) := Hid.in (grown_of_below (Below.refl _ _).drew _)
                    have hn1 : a + 1 ≤ 1000000 := by omega
                    have HQR := Hid.in hqr
                    clear kept hapB hapl ks kf hap1 hap2 hsq hRw ha hqr hlt3
                    go_upto_region 24 with fail
                    refine wp_region_but (fun X => cellIs sb so (.slice ap a cp) X ∧ X.rangeAt wr.heap.size 0 (mc (k, c, l, t, o, e, w_, v, d0, d1, d2, d3, h))) 8 (by kernel_rfl) ?_
                    have HST : Hid (∀ X, w6.grownBy X (oblk ap) → cellIs sb so (.slice ap a cp) X ∧ X.rangeAt wr.heap.size 0 (mc (k, c, l, t, o, e, w_, v, d0, d1, d2, d3, h))) := Hid.in (fun X hX => ⟨(KEPT.out X (HG6.out X hX)).1, RNG.out X hX⟩)
                    have HFc : Hid (∀ X, cellIs sb so (.slice ap a cp) X ∧ X.rangeAt wr.heap.size 0 (mc (k, c, l, t, o, e, w_, v, d0, d1, d2, d3, h)) → X.cell? ⟨sb, so, none⟩ = some (.slice ap a cp)) := Hid.in (fun X h => h.1)
                    have HS := Hid.in (HST.out _ HGd.out)
                    refine wpBut_take (i := 0) (v := ?_) rfl (by kernel_rfl) (by kernel_rfl) (by exact fun _ _ _ h => h) HS.out (Or.inl ⟨by rfl, ?_⟩) ?_
                    case refine_2 => (intro W hSw; have s1 := HFc.out W hSw; go_simp; try with_reducible rfl)
                    simp only [Act.put, List.setIfInBounds_toArray, List.set_cons_zero, List.set_cons_succ]
                    refine wpBut_take (i := 1) (v := ?_) rfl (by kernel_rfl) (by kernel_rfl) (by exact fun _ _ _ h => h) HS.out (Or.inl ⟨by rfl, ?_⟩) ?_
                    case refine_2 => (intro W hSw; have s1 := HFc.out W hSw; go_simp; try with_reducible rfl)
                    simp only [Act.put, List.setIfInBounds_toArray, List.set_cons_zero, List.set_cons_succ]
                    refine wpBut_take (i := 2) (v := ?_) rfl (by kernel_rfl) (by kernel_rfl) (by exact fun _ _ _ h => h) HS.out (Or.inl ⟨by rfl, ?_⟩) ?_
                    case refine_2 => (intro W hSw; have s1 := HFc.out W hSw; go_simp; try with_reducible rfl)
                    simp only [Act.put, List.setIfInBounds_toArray, List.set_cons_zero, List.set_cons_succ]
                    refine wpBut_take (i := 3) (v := ?_) rfl (by kernel_rfl) (by kernel_rfl) (by exact fun _ _ _ h => h) HS.out (Or.inl ⟨by rfl, ?_⟩) ?_
                    case refine_2 => (intro W hSw; have s1 := HFc.out W hSw; go_simp; try with_reducible rfl)
                    simp only [Act.put, List.setIfInBounds_toArray, List.set_cons_zero, List.set_cons_succ]
                    refine wpBut_take (i := 4) (v := .agg (mc (k, c, l, t, o, e, w_, v, d0, d1, d2, d3, h)).toArray) rfl (by kernel_rfl) (by kernel_rfl) (by exact fun _ _ _ h => h) HS.out ?hy12 ?_
                    case hy12 => exact yieldsIf_load_mid (by rfl) 32 (.tmp 14) rfl wr.heap.size 0 rfl (mc (k, c, l, t, o, e, w_, v, d0, d1, d2, d3, h)) _ (fun X h => h.2) Tryd.underlying32 rfl (by rw [mc_len]; exact Tryd.sizeMsg)
                    simp only [Act.put, List.setIfInBounds_toArray, List.set_cons_zero, List.set_cons_succ, mc_arr, mv_eq]
                    refine wpBut_one (i := 5) rfl (by kernel_rfl) (fun K HK => ?_)
                    refine step_build1 rfl (.tmp 105) rfl (k, c, l, t, o, e, w_, v, d0, d1, d2, d3, h) rfl ?_
                    refine HK.out _ _ (fun _ => HST.out _ HGa.out) ?_
                    simp only [Act.put, List.setIfInBounds_toArray, List.set_cons_zero, List.set_cons_succ]
                    clear HK K
                    refine wpBut_one (i := 6) rfl (by kernel_rfl) (fun K HK => ?_)
                    refine step_concatA rfl 44 32 13 80 _ (.tmp 104) (.tmp 106) rfl Tryd.underlying44 Tryd.infoMsg rfl (by decide) (by decide) 0 ap (some ⟨w6.heap.size, 0, none⟩) a cp 1 1 (R.map mc) [mc (k, c, l, t, o, e, w_, v, d0, d1, d2, d3, h)] (by rfl) HOx.out (by rfl) rfl HRx.out (Nat.zero_le _) hn1 ?_
                    intro ao3 cap3 w3 HO3 HG3 HN3 _
                    have HG4 : Hid (w6.grownBy w3 (oblk ap)) := Hid.in (grown_trans' HGa.out HG3.out)
                    refine HK.out _ _ (fun _ => HST.out _ HG4.out) ?_
                    simp only [Act.put, List.setIfInBounds_toArray, List.set_cons_zero, List.set_cons_succ]
                    clear HK K HS
                    have HS := Hid.in (HST.out _ HG4.out)
                    refine wpBut_take (i := 7) (v := ?_) rfl (by kernel_rfl) (by kernel_rfl) (by exact fun _ _ _ h => h) HS.out (Or.inl ⟨by rfl, ?_⟩) ?_
                    case refine_2 => (intro W hSw; have s1 := HFc.out W hSw; go_simp; try with_reducible rfl)
                    simp only [Act.put, List.setIfInBounds_toArray, List.set_cons_zero, List.set_cons_succ]
                    refine wpBut_one (i := 8) rfl (by kernel_rfl) (fun K HK => ?_)
                    obtain ⟨hz1, hz2⟩ := KEPT.out _ (HG6.out _ HG4.out)
                    go_simp
                    refine HK.out _ _ (fun h => absurd rfl h) ?_
                    clear HK K hz1 hz2
                    refine wpBut_done (by kernel_rfl) ?_ _
                    have hup := HUpd.out w3 (w3.setCell ⟨sb, so, none⟩ (.slice ao3 (a + 1) cap3)) ao3 cap3 (R ++ [(k, c, l, t, o, e, w_, v, d0, d1, d2, d3, h)]) (HG6.out _ HG4.out) (by rw [List.length_append, List.length_singleton, HAl.out, List.map_append]; exact HO3.out) (fun b hk => by
                      rcases HN3.out b hk with h1 | h1
                      · exact .inl h1
                      · have h2 := HB6.out.size
                        simp at h1
                        exact .inr (by omega)) (by rw [List.length_append, List.length_singleton, HAl.out]; exact Below.refl _ _) (by
                      have h1 := HOk.out (i3 + 1)
                      rw [putsF_take HM.out] at h1
                      unfold putF at h1
                      rw [HP.out, HRw.out] at h1
                      exact h1)
                    obtain ⟨S2, hT2⟩ := hup
                    have HT2 := Hid.in hT2
                    clear hT2
                    go_wp2
                    go_roundw
                    case rel =>
                      refine ⟨i3 + 1, S2, by omega, by go_num, ?_⟩
                      rw [putsF_take HM.out]
                      unfold putF
                      rw [HP.out, HRw.out]
                      exact HT.out.trans HT2.out
                    case measure => simp [intOf]; omega
                · as_aux_lemma =>
                    obtain rfl : i3 = i2 := by omega
                    go_wp2
                    go_ret2
                    refine ⟨rfl, S1, ?_⟩
                    have h1 := HT.out
                    rw [List.take_of_length_le (by rw [HLn.out]; exact Nat.le_refl _), HPP.out] at h1
                    exact h1

end Go.Proofs.YtakomlmbdienpaaDoor

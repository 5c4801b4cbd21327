/- DERIVED of the program: MshrPlays returns true. Own work. -/
import Derived.Test.YtbljopjjmlacpaaDoorMsPlA
namespace Go.Proofs.YtbljopjjmlacpaaDoor
open Go.RowKit Go.Extern.Stop Go.Stop Go.Extern

set_option maxHeartbeats 25600000 in
set_option maxRecDepth 20000 in
theorem mshrPlays_ok (w : World) (sa : Nat → Addr) (hE : Env10 w sa) (m : Nat) (h1 : 1 ≤ m) (h8 : m ≤ 8) (al : Option Addr) (n capl : Nat) (hQ : Asks w al n 3) :
    Calls Tryd.prog 4 #[.int .i64 (m : Int), .slice al n capl] w fun r w' => r = .returned (.bool true) ∧ Below w.heap.size w w' := by
  have HE := Hid.in hE
  have HQ := Hid.in hQ
  clear hE hQ
  go_enter Tryd.func4, Tryd.ntmps4
  go_wp2_with fail
  refine (mnew_ok w m h1 h8).mono ?_
  rintro r w1 ⟨rfl, hT, hb⟩
  have HT1 := Hid.in hT
  have HB1 := Hid.in hb
  clear hT hb
  go_wp2_with fail
  refine (rmnew_ok w1 m h1 h8).mono ?_
  rintro r w2 ⟨rfl, hR, hb⟩
  have HB2 : Hid (Two w w2 w1.heap.size m newK) := Hid.in ⟨HT1.out.step hb, hR, by rw [allK_new]; exact Nat.zero_le _, bstep HB1.out (Nat.le_refl _) hb, HT1.out.lt⟩
  clear hR hb HT1 HB1
  go_wp2_with fail
  refine (kIs_nil opMNew m w2).mono ?_
  rintro r w3 ⟨rfl, hb⟩
  have HB3 := Hid.in (HB2.out.step hb)
  clear hb HB2
  obtain ⟨lo, hlo⟩ : ∃ lo, w1.heap.size = lo := ⟨_, rfl⟩
  rw [hlo] at HB3
  rw [hlo]
  clear hlo
  go_wp2
  go_loopw [9] (fun c wr => ∃ (i : Nat) (K : List Int), i ≤ n ∧ i ≤ 60 ∧ c = .int .i64 (i : Int) ∧ Two w wr lo m K) (fun c _ => 60 - (intOf c).toNat)
  case atStart => exact ⟨0, newK, Nat.zero_le _, Nat.zero_le _, rfl, HB3.out⟩
  case round =>
    obtain ⟨i, K, hin', hi60, rfl, hB⟩ := hrel
    have HB := Hid.in hB
    clear hB HB3
    by_cases hlt : i < n ∧ i < 60
    · obtain ⟨hin, hi6⟩ := hlt
      obtain ⟨lb, lq, rfl, hz⟩ := HQ.out i hin
      obtain ⟨kd, hz0⟩ := hz 0 (by omega)
      obtain ⟨ln, hz1⟩ := hz 1 (by omega)
      obtain ⟨mi, hz2⟩ := hz 2 (by omega)
      clear hz
      rename World => wo
      have c0 : wo.cell? ⟨lb, lq + i * 3, none⟩ = some (.int .i64 kd) := (HB.out.b.cell (p := ⟨lb, lq + i * 3, none⟩) (lt_cell (q := ⟨lb, lq + i * 3, none⟩) hz0)).trans hz0
      have c1 : wo.cell? ⟨lb, lq + i * 3 + 1, none⟩ = some (.int .i64 ln) := (HB.out.b.cell (p := ⟨lb, lq + i * 3 + 1, none⟩) (lt_cell (q := ⟨lb, lq + i * 3 + 1, none⟩) hz1)).trans hz1
      have c2 : wo.cell? ⟨lb, lq + i * 3 + 2, none⟩ = some (.int .i64 mi) := (HB.out.b.cell (p := ⟨lb, lq + i * 3 + 2, none⟩) (lt_cell (q := ⟨lb, lq + i * 3 + 2, none⟩) hz2)).trans hz2
      clear hz0 hz1 hz2
      have i1 : (i : Int) < (n : Int) := by omega
      have i2 : (i : Int) < 60 := by omega
      go_upto_block 2 with fail
      generalize hww : wo.alloc _ = wx
      have x0 : wx.cell? ⟨wo.heap.size, 0, none⟩ = some (.int .i64 kd) := by rw [← hww]; exact blk_cell (heap_alloc_new _ _) rfl
      have x1 : wx.cell? ⟨wo.heap.size, 1, none⟩ = some (.int .i64 ln) := by rw [← hww]; exact blk_cell (heap_alloc_new _ _) rfl
      have x2 : wx.cell? ⟨wo.heap.size, 2, none⟩ = some (.int .i64 mi) := by rw [← hww]; exact blk_cell (heap_alloc_new _ _) rfl
      have HBX : Hid (Two w wx lo m K) := Hid.in (by rw [← hww]; exact HB.out.step (below_alloc _ _))
      have HHQ : Hid (lo < wo.heap.size) := Hid.in HB.out.r.lt
      clear hww c0 c1 c2 HB
      go_cut [11] (fun ok wy => ok = .bool true ∧ ∃ K', Two w wy lo m K')
      case first =>
        by_cases k1 : kd = 1
        · as_aux_lemma =>
            subst k1
            obtain ⟨cd, K4, h4⟩ : ∃ cd K4, addK m K ln mi = (cd, K4) := ⟨_, _, rfl⟩
            have HD := Hid.in h4
            have HC : Hid (cd ≤ 10) := Hid.in (by have := addK_code m K ln mi; rwa [h4] at this)
            have HL : Hid ((allK K4).length ≤ m) := Hid.in (addK_le HBX.out.a.len h4 HBX.out.le)
            clear h4
            go_wp2_with fail
            refine (madd_c wx sa (HE.out.below HBX.out.b) _ m K HBX.out.a ln mi cd K4 HD.out).mono ?_
            rintro r w5 ⟨rfl, hA5, hp5⟩
            have HA5 := Hid.in hA5
            have HP5 := Hid.in hp5
            have y1 := HBX.out.far5 hp5 HHQ.out x1
            have y2 := HBX.out.far5 hp5 HHQ.out x2
            clear hA5 hp5 x0 x1 x2
            go_wp2_with fail
            refine (rmadd_c w5 lo m K HBX.out.a.len (HBX.out.r.kept HP5.out HBX.out.d) h8 ln mi cd K4 HD.out).mono ?_
            rintro r w6 ⟨rfl, hA6, hp6⟩
            have z1 := far6 hp6 (Nat.succ_le_of_lt HHQ.out) y1
            have HB6 := Hid.in (HBX.out.both HA5.out HP5.out hA6 hp6 HL.out)
            clear hA6 hp6 y1 y2
            go_wp2_with fail
            refine (kIs_perr opMAdd ln cd HC.out w6 sa (HE.out.below HB6.out.b)).mono ?_
            rintro r w7 ⟨rfl, hb⟩
            have HB7 := Hid.in (HB6.out.step hb)
            clear hb z1
            go_wp2_with fail
            refine (kOnly_perr opMAdd ln cd HC.out w7 sa (HE.out.below HB7.out.b)).mono ?_
            rintro r w8 ⟨rfl, hb⟩
            have HB8 := Hid.in (HB7.out.step hb)
            clear hb
            go_wp2
            go_meet
            case rel => exact ⟨rfl, K4, HB8.out⟩
        by_cases k2 : kd = 2
        · as_aux_lemma =>
            subst k2
            obtain ⟨g, p, h4⟩ : ∃ g p, getK K ln = (g, p) := ⟨_, _, rfl⟩
            have HD := Hid.in h4
            clear h4
            go_wp2_with fail
            refine (mget_c wx _ m K HBX.out.a ln g p HD.out).mono ?_
            rintro r w5 ⟨rfl, rfl⟩
            go_wp2_with fail
            refine (rmget_c w5 lo m K HBX.out.r ln g p HD.out).mono ?_
            rintro r w6 ⟨rfl, hb⟩
            have HB6 := Hid.in (HBX.out.step hb)
            clear hb x0 x1 x2
            go_wp2
            go_meet
            case rel => exact ⟨by simp, K, HB6.out⟩
        by_cases k3 : kd = 3
        · as_aux_lemma =>
            subst k3
            obtain ⟨cd, K4, h4⟩ : ∃ cd K4, dropK K ln = (cd, K4) := ⟨_, _, rfl⟩
            have HD := Hid.in h4
            have HL : Hid ((allK K4).length ≤ m) := Hid.in (dropK_le HBX.out.a.len h4 HBX.out.le)
            clear h4
            go_upto_region 20 with fail
            go_region_held3 (fun W => W.cell? ⟨wo.heap.size, 1, none⟩ = some (.int .i64 ln)) (first | go_keep | (simp [*]; done))
              (first
                | (go_at_call 13; refine (mdrop_c _ _ m K (HBX.out.step ((Below.refl _ _).drew)).a ln cd K4 HD.out).mono ?_; rintro r w5 ⟨rfl, hA5, hp5⟩; have HA5 := Hid.in hA5; have HP5 := Hid.in hp5; have hk5 : w5.cell? ⟨wo.heap.size, 1, none⟩ = some (.int .i64 ln) := (HBX.out.step ((Below.refl _ _).drew)).far5 hp5 HHQ.out x1; clear hA5 hp5)
                | (go_at_call 19; refine (rmdrop_c w5 lo m K HBX.out.a.len ((HBX.out.step ((Below.refl _ _).drew)).r.kept HP5.out HBX.out.d) ln cd K4 HD.out).mono ?_; rintro r w6 ⟨rfl, hA6, hp6⟩; have HA6 := Hid.in hA6; have HP6 := Hid.in hp6; have hk6 : w6.cell? ⟨wo.heap.size, 1, none⟩ = some (.int .i64 ln) := far6 hp6 (Nat.succ_le_of_lt HHQ.out) hk5; clear hA6 hp6))
            have HBY := Hid.in ((HBX.out.step ((Below.refl _ _).drew)).both HA5.out HP5.out HA6.out HP6.out HL.out)
            go_wp2
            go_meet
            case rel => exact ⟨by simp, K4, HBY.out⟩
        · as_aux_lemma =>
            have j1 : (kd == 1) = false := by simpa using k1
            have j2 : (kd == 2) = false := by simpa using k2
            have j3 : (kd == 3) = false := by simpa using k3
            go_wp2
            go_meet
            case rel => exact ⟨rfl, K, HBX.out⟩
      case rest =>
        obtain ⟨rfl, K', hB⟩ := hcut
        rename World => wy
        clear HBX HHQ x0 x1 x2
        have HBY := Hid.in hB
        obtain ⟨⟨ra, rcap, hrq, hrO⟩, hr32⟩ := hB.r
        have kq : wy.cell? ⟨lo, 1, none⟩ = some (.slice ra (allK K').length rcap) := blk_cell hrq rfl
        have HRO := Hid.in hrO
        obtain ⟨M, hMM⟩ : ∃ M, (allK K').length = M := ⟨_, rfl⟩
        have hMm : M ≤ m := by rw [← hMM]; exact hB.le
        rw [hMM] at kq HRO hr32
        have HMM := Hid.in hMM
        clear hB hrq hrO hMM
        go_wp2
        go_loopw [18, 127] (fun sl c wr => ∃ (x : Nat) (ao : Option Addr) (cap : Nat), x ≤ M ∧ c = .int .i64 (x : Int) ∧ sl = .slice ao x cap ∧ OwnM 48 wr wy.heap.size ao x cap ((allK K').take x) ∧ Below wy.heap.size wy wr) (fun _ c _ => M - (intOf c).toNat)
        case atStart => exact ⟨0, none, 0, Nat.zero_le _, rfl, rfl, OwnS.nil _ _ _ _, Below.refl _ _⟩
        case round =>
          obtain ⟨x, ao, cap, hxM, rfl, rfl, hO, hb⟩ := hrel
          have HO := Hid.in hO
          have HBr := Hid.in hb
          clear hO hb kq
          rename World => wr
          by_cases hxl : x < M
          · obtain ⟨b1, u, v, rfl, x1, x2, huv⟩ := OwnS.miss2 (OwnS.step HRO.out HBr.out) x (by rw [HMM.out]; exact hxl)
            have HUV := Hid.in huv
            have j1 : (x : Int) < (M : Int) := by omega
            clear huv
            have HP0 : Hid (Below wy.heap.size wy (wr.alloc (.cells #[.int .i64 u, .int .i64 v] 47))) := Hid.in (HBr.out.alloc HBr.out.size _)
            have HP1 : Hid (Below wy.heap.size wy ((wr.alloc (.cells #[.int .i64 u, .int .i64 v] 47)).alloc (.cells #[.int .i64 u, .int .i64 v] 48))) := Hid.in (HP0.out.alloc HP0.out.size _)
            have HR : Hid (Rows' 2 ((wr.alloc (.cells #[.int .i64 u, .int .i64 v] 47)).alloc (.cells #[.int .i64 u, .int .i64 v] 48)) (some ⟨wr.heap.size + 1, 0, none⟩) 1 [mc (u, v)]) := Hid.in (by have := Rows'.lit 2 (wr.alloc (.cells #[.int .i64 u, .int .i64 v] 47)) 48 (mc (u, v)) _ rfl rfl (mc_one _); simpa [mc] using this)
            have HOO : Hid (OwnM 48 ((wr.alloc (.cells #[.int .i64 u, .int .i64 v] 47)).alloc (.cells #[.int .i64 u, .int .i64 v] 48)) wy.heap.size ao x cap ((allK K').take x)) := Hid.in ((HO.out.step (below_alloc _ _)).step (below_alloc _ _))
            have hx8 : x ≤ 8 := by omega
            go_wp2_with (first
              | (at_builtin; refine wpList_concatS rfl 33 48 2 16 _ (.tmp 131) (.tmp 137) rfl Tryd.underlying33 Tryd.infoMiss rfl (by decide) (by decide) wy.heap.size wy ao (some ⟨wr.heap.size + 1, 0, none⟩) x cap 1 1 _ [mc (u, v)] rfl HOO.out rfl rfl HR.out HP1.out HP1.out.size (by omega) ?_; intro ao3 cap3 w3 HO3 HB3 _)
              | fail)
            go_roundw
            case rel =>
              refine ⟨x + 1, ao3, cap3, by omega, by go_num, rfl, ?_, HB3.out⟩
              unfold OwnM
              have he : (allK K').take (x + 1) = (allK K').take x ++ [(u, v)] := by rw [List.take_add_one, HUV.out]; rfl
              rw [he, List.map_append]
              exact HO3.out
            case measure => simp [intOf]; omega
          · obtain rfl : M = x := by omega
            have HO' : Hid (OwnM 48 wr wy.heap.size ao M cap (allK K')) := Hid.in (by have := HO.out; rwa [List.take_of_length_le (by rw [HMM.out]; exact Nat.le_refl _)] at this)
            have HT := Hid.in (HBY.out.step HBr.out)
            clear HO hxl hxM
            obtain ⟨fb, hfb⟩ : ∃ fb, decide (m ≤ M) = fb := ⟨_, rfl⟩
            have HFB := Hid.in hfb
            have heq : ((M : Int) == (m : Int)) = fb := by rw [← hfb]; by_cases hh : m ≤ M; (have : M = m := by omega); (subst this; simp); (rw [decide_eq_false hh]; exact beq_eq_false_iff_ne.2 (by omega))
            clear hfb
            have hM8 : M ≤ 8 := by omega
            go_wp2_with fail
            refine (mlist_c wr _ m K' HT.out.a M HMM.out).mono ?_
            rintro r w4 ⟨a4, c4, rfl, hO4, hb⟩
            have HO4 := Hid.in hO4
            have HT4 := Hid.in (HT.out.step hb)
            have HO5 := Hid.in (OwnS.step HO'.out hb)
            clear hO4 hb
            go_wp2_with fail
            refine (same_misses w4 _ _ a4 ao M c4 cap _ HO4.out HO5.out (by omega)).mono ?_
            rintro r w5 ⟨rfl, hb⟩
            have HT5 := Hid.in (HT4.out.step hb)
            clear hb
            go_wp2_with fail
            refine (mfull_c w5 _ m K' HT5.out.a fb (by rw [HMM.out]; exact HFB.out)).mono ?_
            rintro r w6 ⟨rfl, hb⟩
            have HT6 := Hid.in (HT5.out.step hb)
            clear hb
            go_wp2
            go_roundw
            case rel => exact ⟨i + 1, K', by omega, by omega, by go_num, HT6.out⟩
            case measure => simp [intOf]; omega
    · by_cases hin : i < n
      · have i1 : (i : Int) < (n : Int) := by omega
        obtain rfl : i = 60 := by omega
        go_wp2_with fail
        refine (mshrRuns_any _ sa (HE.out.below HB.out.b)).mono ?_
        rintro r w3 ⟨rfl, hb⟩
        have HB3 := Hid.in (bstep HB.out.b (Nat.le_refl _) hb)
        clear hb
        go_wp2
        go_ret
        exact ⟨rfl, HB3.out⟩
      · have i1 : ¬ (i : Int) < (n : Int) := by omega
        go_wp2_with fail
        refine (mshrRuns_any _ sa (HE.out.below HB.out.b)).mono ?_
        rintro r w3 ⟨rfl, hb⟩
        have HB3 := Hid.in (bstep HB.out.b (Nat.le_refl _) hb)
        clear hb
        go_wp2
        go_ret
        exact ⟨rfl, HB3.out⟩

theorem mshrPlays_any (w : World) (sa : Nat → Addr) (hE : Env10 w sa) (n0 : Int) (al : Option Addr) (n capl : Nat) (hQ : Asks w al n 3) :
    Calls Tryd.prog 4 #[.int .i64 n0, .slice al n capl] w fun r w' => r = .returned (.bool true) ∧ Below w.heap.size w w' := by
  cases h : wB n0 1 8 with
  | false => exact mshrPlays_nil w sa hE n0 h al n capl
  | true =>
    have h' := wB_of h
    obtain ⟨m, rfl⟩ : ∃ m : Nat, n0 = (m : Int) := ⟨n0.toNat, by omega⟩
    exact mshrPlays_ok w sa hE m (by omega) (by omega) al n capl hQ

end Go.Proofs.YtbljopjjmlacpaaDoor

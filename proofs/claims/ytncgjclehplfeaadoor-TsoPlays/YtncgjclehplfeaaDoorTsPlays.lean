/- DERIVED of the program: TsoPlays returns true. Own work. -/
import Derived.Test.YtncgjclehplfeaaDoorTsTri
import Derived.Test.YtncgjclehplfeaaDoorTsK
import Derived.Test.YtncgjclehplfeaaDoorGenT
import Derived.Deep.CutBlock
namespace Go.Proofs.YtncgjclehplfeaaDoor
open Go.RowKit Go.Extern.Stop Go.Stop Go.Extern

theorem kOnly_flt (op : ByteArray) (n : Int) (c : Nat) (h1 : 1 ≤ c) (h2 : c ≤ 10) (w : World) (sa : Nat → Addr) (hE : Env10 w sa) :
    Calls Tryd.prog 20 #[flt op n (snt (sa c)), .int .i64 c] w fun r w' => r = .returned (.bool true) ∧ Below w.heap.size w w' := kOnly_chn [(op, n)] c h1 h2 w sa hE
theorem kOnly_nil (w : World) (sa : Nat → Addr) (hE : Env10 w sa) : Calls Tryd.prog 20 #[.nilIface, .int .i64 0] w fun r w' => r = .returned (.bool true) ∧ Below w.heap.size w w' := by
  have HE := Hid.in hE
  clear hE
  go_enter Tryd.func20, Tryd.ntmps20
  go_wp2
  go_loopw [5] (fun i wr => ∃ k : Nat, 1 ≤ k ∧ k ≤ 11 ∧ i = .int .i64 k ∧ Below w.heap.size w wr) (fun i _ => 11 - (intOf i).toNat)
  case atStart => exact ⟨1, Nat.le_refl _, by omega, rfl, Below.refl _ _⟩
  case round =>
    obtain ⟨k, hk1, hk, rfl, hb⟩ := hrel
    have HB := Hid.in hb
    clear hb
    by_cases hlt : k ≤ 10
    · have hq : ((k : Int) == 0) = false := by simp; omega
      go_wp2_with fail
      refine (error_code _ sa (HE.out.below HB.out) k hk1 hlt).mono ?_
      rintro r w' ⟨rfl, rfl⟩
      go_wp2_with fail
      refine (Is_nil (sa k) _).mono ?_
      rintro r w' ⟨rfl, rfl⟩
      go_wp2
      go_roundw
      case rel => exact ⟨k + 1, by omega, by omega, by go_num, HB.out⟩
      case measure => simp [intOf]; omega
    · go_wp2
      go_ret
      exact ⟨rfl, HB.out⟩
theorem kOnly_perr (op : ByteArray) (n : Int) (c : Nat) (h2 : c ≤ 10) (w : World) (sa : Nat → Addr) (hE : Env10 w sa) :
    Calls Tryd.prog 20 #[perr sa c op n, .int .i64 c] w fun r w' => r = .returned (.bool true) ∧ Below w.heap.size w w' := by
  unfold perr
  split
  · rename_i h
    subst h
    exact kOnly_nil w sa hE
  · exact kOnly_flt op n c (by omega) h2 w sa hE
theorem set6 {w : World} {X : Nat} {t : TypeId} {a0 a1 a2 a3 a4 a5 : Value} (h : w.heap[X]? = some (.cells #[a0, a1, a2, a3, a4, a5] t (0, 0))) (b0 b1 b2 b3 b4 b5 : Value) :
    ((((((w.setCell ⟨X, 0, none⟩ b0).setCell ⟨X, 1, none⟩ b1).setCell ⟨X, 2, none⟩ b2).setCell ⟨X, 3, none⟩ b3).setCell ⟨X, 4, none⟩ b4).setCell ⟨X, 5, none⟩ b5).heap[X]? = some (.cells #[b0, b1, b2, b3, b4, b5] t (0, 0)) ∧
    Fr [X] w ((((((w.setCell ⟨X, 0, none⟩ b0).setCell ⟨X, 1, none⟩ b1).setCell ⟨X, 2, none⟩ b2).setCell ⟨X, 3, none⟩ b3).setCell ⟨X, 4, none⟩ b4).setCell ⟨X, 5, none⟩ b5) :=
  ⟨blk_set (i := 5) b5 (blk_set (i := 4) b4 (blk_set (i := 3) b3 (blk_set (i := 2) b2 (blk_set (i := 1) b1 (blk_set (i := 0) b0 h))))),
    (((((((Fr.refl [X] w).setCell b0 List.mem_cons_self).setCell b1 List.mem_cons_self).setCell b2 List.mem_cons_self).setCell b3 List.mem_cons_self).setCell b4 List.mem_cons_self).setCell b5 List.mem_cons_self)⟩
set_option maxHeartbeats 6400000 in
set_option maxRecDepth 20000 in
theorem tsoPlays_nil1 (w : World) (sa : Nat → Addr) (hE : Env10 w sa) (c0 n0 : Int) (h : ¬ ((1 ≤ c0 ∧ c0 ≤ 64) ∧ 1 ≤ n0 ∧ n0 ≤ 128)) (h1 : 1 ≤ c0) (h2 : c0 ≤ 64) (al : Option Addr) (n capl : Nat) :
    Calls Tryd.prog 4 #[.int .i64 c0, .int .i64 n0, .slice al n capl] w fun r w' => r = .returned (.bool true) ∧ Below w.heap.size w w' := by
  have HE := Hid.in hE
  have HN := Hid.in h
  have HI : Hid (tnewC c0 n0 = (1, 1)) := Hid.in (by
    unfold tnewC
    rw [wB_yes (n := c0) ⟨h1, h2⟩, wB_no (n := n0) (fun h3 => HN.out ⟨⟨h1, h2⟩, h3⟩)]
    rfl)
  clear hE h
  go_enter Tryd.func4, Tryd.ntmps4
  go_wp2_with fail
  refine (tnew_no w sa HE.out c0 n0 1 HI.out).mono ?_
  rintro r w' ⟨rfl, rfl⟩
  go_wp2_with fail
  refine (rtnew_no _ c0 n0 HN.out).mono ?_
  rintro r w' ⟨rfl, rfl⟩
  go_wp2_with fail
  refine (kIs_perr opTNew 1 1 (by omega) w' sa HE.out).mono ?_
  rintro r w2 ⟨rfl, hb⟩
  have HB := Hid.in hb
  clear hb
  by_cases hn : 0 < n
  · have i1 : (0 : Int) < (n : Int) := by omega
    go_wp2
    go_loopw [12] (fun c wr => c = .int .i64 0 ∧ wr = w2) (fun _ _ => 0)
    case atStart => exact ⟨rfl, rfl⟩
    case round =>
      obtain ⟨rfl, rfl⟩ := hrel
      go_wp2_with fail
      refine (tsoRuns_any _ sa (HE.out.below HB.out)).mono ?_
      rintro r w3 ⟨rfl, hb⟩
      have HB3 := Hid.in (bstep HB.out (Nat.le_refl _) hb)
      clear hb
      go_wp2
      go_ret
      exact ⟨rfl, HB3.out⟩
  · obtain rfl : n = 0 := by omega
    go_wp2
    go_loopw [12] (fun c wr => c = .int .i64 0 ∧ wr = w2) (fun _ _ => 0)
    case atStart => exact ⟨rfl, rfl⟩
    case round =>
      obtain ⟨rfl, rfl⟩ := hrel
      go_wp2_with fail
      refine (tsoRuns_any _ sa (HE.out.below HB.out)).mono ?_
      rintro r w3 ⟨rfl, hb⟩
      have HB3 := Hid.in (bstep HB.out (Nat.le_refl _) hb)
      clear hb
      go_wp2
      go_ret
      exact ⟨rfl, HB3.out⟩
set_option maxHeartbeats 6400000 in
set_option maxRecDepth 20000 in
theorem tsoPlays_nil2 (w : World) (sa : Nat → Addr) (hE : Env10 w sa) (c0 n0 : Int) (h : ¬ ((1 ≤ c0 ∧ c0 ≤ 64) ∧ 1 ≤ n0 ∧ n0 ≤ 128)) (h1 : 1 ≤ c0) (h2 : ¬ c0 ≤ 64) (al : Option Addr) (n capl : Nat) :
    Calls Tryd.prog 4 #[.int .i64 c0, .int .i64 n0, .slice al n capl] w fun r w' => r = .returned (.bool true) ∧ Below w.heap.size w w' := by
  have HE := Hid.in hE
  have HN := Hid.in h
  have HI : Hid (tnewC c0 n0 = (1, 0)) := Hid.in (by
    unfold tnewC
    rw [wB_no (n := c0) (fun h3 => h2 h3.2)]
    rfl)
  clear hE h
  go_enter Tryd.func4, Tryd.ntmps4
  go_wp2_with fail
  refine (tnew_no w sa HE.out c0 n0 0 HI.out).mono ?_
  rintro r w' ⟨rfl, rfl⟩
  go_wp2_with fail
  refine (rtnew_no _ c0 n0 HN.out).mono ?_
  rintro r w' ⟨rfl, rfl⟩
  go_wp2_with fail
  refine (kIs_perr opTNew 0 1 (by omega) w' sa HE.out).mono ?_
  rintro r w2 ⟨rfl, hb⟩
  have HB := Hid.in hb
  clear hb
  by_cases hn : 0 < n
  · have i1 : (0 : Int) < (n : Int) := by omega
    go_wp2
    go_loopw [12] (fun c wr => c = .int .i64 0 ∧ wr = w2) (fun _ _ => 0)
    case atStart => exact ⟨rfl, rfl⟩
    case round =>
      obtain ⟨rfl, rfl⟩ := hrel
      go_wp2_with fail
      refine (tsoRuns_any _ sa (HE.out.below HB.out)).mono ?_
      rintro r w3 ⟨rfl, hb⟩
      have HB3 := Hid.in (bstep HB.out (Nat.le_refl _) hb)
      clear hb
      go_wp2
      go_ret
      exact ⟨rfl, HB3.out⟩
  · obtain rfl : n = 0 := by omega
    go_wp2
    go_loopw [12] (fun c wr => c = .int .i64 0 ∧ wr = w2) (fun _ _ => 0)
    case atStart => exact ⟨rfl, rfl⟩
    case round =>
      obtain ⟨rfl, rfl⟩ := hrel
      go_wp2_with fail
      refine (tsoRuns_any _ sa (HE.out.below HB.out)).mono ?_
      rintro r w3 ⟨rfl, hb⟩
      have HB3 := Hid.in (bstep HB.out (Nat.le_refl _) hb)
      clear hb
      go_wp2
      go_ret
      exact ⟨rfl, HB3.out⟩
set_option maxHeartbeats 6400000 in
set_option maxRecDepth 20000 in
theorem tsoPlays_nil3 (w : World) (sa : Nat → Addr) (hE : Env10 w sa) (c0 n0 : Int) (h : ¬ ((1 ≤ c0 ∧ c0 ≤ 64) ∧ 1 ≤ n0 ∧ n0 ≤ 128)) (h1 : ¬ 1 ≤ c0) (al : Option Addr) (n capl : Nat) :
    Calls Tryd.prog 4 #[.int .i64 c0, .int .i64 n0, .slice al n capl] w fun r w' => r = .returned (.bool true) ∧ Below w.heap.size w w' := by
  have HE := Hid.in hE
  have HN := Hid.in h
  have HI : Hid (tnewC c0 n0 = (1, 0)) := Hid.in (by
    unfold tnewC
    rw [wB_no (n := c0) (fun h3 => h1 h3.1)]
    rfl)
  clear hE h
  go_enter Tryd.func4, Tryd.ntmps4
  go_wp2_with fail
  refine (tnew_no w sa HE.out c0 n0 0 HI.out).mono ?_
  rintro r w' ⟨rfl, rfl⟩
  go_wp2_with fail
  refine (rtnew_no _ c0 n0 HN.out).mono ?_
  rintro r w' ⟨rfl, rfl⟩
  go_wp2_with fail
  refine (kIs_perr opTNew 0 1 (by omega) w' sa HE.out).mono ?_
  rintro r w2 ⟨rfl, hb⟩
  have HB := Hid.in hb
  clear hb
  by_cases hn : 0 < n
  · have i1 : (0 : Int) < (n : Int) := by omega
    go_wp2
    go_loopw [12] (fun c wr => c = .int .i64 0 ∧ wr = w2) (fun _ _ => 0)
    case atStart => exact ⟨rfl, rfl⟩
    case round =>
      obtain ⟨rfl, rfl⟩ := hrel
      go_wp2_with fail
      refine (tsoRuns_any _ sa (HE.out.below HB.out)).mono ?_
      rintro r w3 ⟨rfl, hb⟩
      have HB3 := Hid.in (bstep HB.out (Nat.le_refl _) hb)
      clear hb
      go_wp2
      go_ret
      exact ⟨rfl, HB3.out⟩
  · obtain rfl : n = 0 := by omega
    go_wp2
    go_loopw [12] (fun c wr => c = .int .i64 0 ∧ wr = w2) (fun _ _ => 0)
    case atStart => exact ⟨rfl, rfl⟩
    case round =>
      obtain ⟨rfl, rfl⟩ := hrel
      go_wp2_with fail
      refine (tsoRuns_any _ sa (HE.out.below HB.out)).mono ?_
      rintro r w3 ⟨rfl, hb⟩
      have HB3 := Hid.in (bstep HB.out (Nat.le_refl _) hb)
      clear hb
      go_wp2
      go_ret
      exact ⟨rfl, HB3.out⟩

set_option maxHeartbeats 25600000 in
set_option maxRecDepth 20000 in
theorem tsoPlays_ok (w : World) (sa : Nat → Addr) (hE : Env10 w sa) (nA nM : Nat) (h1 : 1 ≤ nA) (h2 : nA ≤ 64) (h3 : 1 ≤ nM) (h4 : nM ≤ 128) (al : Option Addr) (ln capl : Nat) (hQ : AsksW w al ln) :
    Calls Tryd.prog 4 #[.int .i64 (nA : Int), .int .i64 (nM : Int), .slice al ln capl] w fun r w' => r = .returned (.bool true) ∧ Below w.heap.size w w' := by
  have HE := Hid.in hE
  have HQ := Hid.in hQ
  have j1 : (1 : Int) ≤ (nA : Int) := by omega
  have j2 : (nA : Int) ≤ 64 := by omega
  have H1 := Hid.in h1
  have H2 := Hid.in h2
  have H3 := Hid.in h3
  have H4 := Hid.in h4
  clear hE hQ h1 h2 h3 h4
  go_enter Tryd.func4, Tryd.ntmps4
  go_wp2_with fail
  refine (at_new w w (Below.refl _ _) nA nM H1.out H2.out H3.out H4.out).mono ?_
  rintro r w1 ⟨q, S, rfl, hA, _, _⟩
  have HA1 := Hid.in hA
  clear hA
  go_wp2_with fail
  refine (two_new w w1 q 0 S _ HA1.out nA nM H1.out H2.out H3.out H4.out).mono ?_
  rintro r w2 ⟨p, R, rfl, hT⟩
  have HT2 := Hid.in hT
  clear hT HA1
  go_wp2_with fail
  refine (kIs_nil opTNew 1 w2).mono ?_
  rintro r w3 ⟨rfl, hb⟩
  have HT3 := Hid.in (HT2.out.step hb)
  clear hb HT2 j1 j2
  go_wp2
  go_loopw [12] (fun c wr => ∃ (i : Nat) (s : TS) (S R : List Nat), i ≤ ln ∧ i ≤ 60 ∧ c = .int .i64 (i : Int) ∧ Two w wr q S i s p R i s ∧ s.1.length = nA ∧ s.2.length = nM) (fun c _ => 60 - (intOf c).toNat)
  case atStart => exact ⟨0, _, _, _, Nat.zero_le _, Nat.zero_le _, rfl, HT3.out, by simp, by simp⟩
  case round =>
    obtain ⟨i, s, Si, Ri, hin', hi60, rfl, hT, hsA, hsM⟩ := hrel
    clear HT3
    have HTi := Hid.in hT
    have HSA := Hid.in hsA
    have HSM := Hid.in hsM
    clear hT hsA hsM
    rename World => wo
    by_cases hlt : i < ln ∧ i < 60
    · obtain ⟨hin, hi6⟩ := hlt
      obtain ⟨b, o, kd, qc, qa, ek, ec, ea, ev, en, ed, own, rfl, x0, x1, x2, x3, x4, x5, x6, x7, x8, x9⟩ := HQ.out.at i hin
      have hbw := HTi.out.a.b
      have y0 := (hbw.cell (p := ⟨b, o + i * 10, none⟩) (lt_cell x0)).trans x0
      have y1 := (hbw.cell (p := ⟨b, o + i * 10 + 1, none⟩) (lt_cell x1)).trans x1
      have y2 := (hbw.cell (p := ⟨b, o + i * 10 + 2, none⟩) (lt_cell x2)).trans x2
      have y3 := (hbw.cell (p := ⟨b, o + i * 10 + 3, none⟩) (lt_cell x3)).trans x3
      have y4 := (hbw.cell (p := ⟨b, o + i * 10 + 4, none⟩) (lt_cell x4)).trans x4
      have y5 := (hbw.cell (p := ⟨b, o + i * 10 + 5, none⟩) (lt_cell x5)).trans x5
      have y6 := (hbw.cell (p := ⟨b, o + i * 10 + 6, none⟩) (lt_cell x6)).trans x6
      have y7 := (hbw.cell (p := ⟨b, o + i * 10 + 7, none⟩) (lt_cell x7)).trans x7
      have y8 := (hbw.cell (p := ⟨b, o + i * 10 + 8, none⟩) (lt_cell x8)).trans x8
      have y9 := (hbw.cell (p := ⟨b, o + i * 10 + 9, none⟩) (lt_cell x9)).trans x9
      have i1 : (i : Int) < (ln : Int) := by omega
      have i2 : (i : Int) < 60 := by omega
      clear x0 x1 x2 x3 x4 x5 x6 x7 x8 x9 hbw
      go_upto_region 12 with fail
      generalize hww : wo.alloc _ = wx
      obtain ⟨X, hX⟩ : ∃ X, wo.heap.size = X := ⟨_, rfl⟩
      have HX : Hid (wx.heap[X]? = some (.cells #[.int .i64 kd, .int .i64 qc, .int .i64 qa, .int .i64 ek, .int .i64 ec, .int .i64 ea, .int .u32 ev, .int .u32 en, .bool ed, .bool own] 46 (0, 0))) := Hid.in (by rw [← hX, ← hww]; exact heap_alloc_new _ _)
      have HTX : Hid (Two w wx q Si i s p Ri i s) := Hid.in (by rw [← hww]; exact HTi.out.step (below_alloc _ _))
      have HXD : Hid (X ∉ Si ∧ X ∉ Ri ∧ w.heap.size ≤ X) := Hid.in (by rw [← hX]; exact ⟨HTi.out.a.p.far (Nat.le_refl _), HTi.out.m.far (Nat.le_refl _), HTi.out.a.b.size⟩)
      rw [hX]
      clear hww hX HTi y0 y1 y2 y3 y4 y5 y6 y7 y8 y9
      have a0 := blk_cell (i := 0) HX.out rfl
      go_upto_block 2 with fail
      go_cut [] (fun wd => ∃ (s' : TS) (S' R' : List Nat), wd.heap[X]? = some (.cells #[.int .i64 kd, .int .i64 qc, .int .i64 qa, .int .i64 ek, .int .i64 ec, .int .i64 ea, .int .u32 ev, .int .u32 en, .bool ed, .bool own] 46 (0, 0)) ∧ Two w wd q S' (i + 1) s' p R' (i + 1) s' ∧ X ∉ S' ∧ X ∉ R' ∧ s'.1.length = nA ∧ s'.2.length = nM)
      case first =>
        by_cases k1 : kd = 1
        · as_aux_lemma =>
            subst k1
            have b3 := blk_cell (i := 3) HX.out rfl
            have b4 := blk_cell (i := 4) HX.out rfl
            have b5 := blk_cell (i := 5) HX.out rfl
            have b6 := blk_cell (i := 6) HX.out rfl
            have b7 := blk_cell (i := 7) HX.out rfl
            have b8 := blk_cell (i := 8) HX.out rfl
            go_upto_region 15 with fail
            generalize hw1 : wx.alloc _ = w1
            obtain ⟨X2, hX2⟩ : ∃ X2, wx.heap.size = X2 := ⟨_, rfl⟩
            have HX2 : Hid (w1.heap[X2]? = some (.cells #[.int .i64 ek, .int .i64 ec, .int .i64 ea, .int .u32 ev, .int .u32 en, .bool ed] 24 (0, 0))) := Hid.in (by rw [← hX2, ← hw1]; exact heap_alloc_new _ _)
            have HT1 : Hid (Two w w1 q Si i s p Ri i s) := Hid.in (by rw [← hw1]; exact HTX.out.step (below_alloc _ _))
            have HX1 : Hid (w1.heap[X]? = some (.cells #[.int .i64 1, .int .i64 qc, .int .i64 qa, .int .i64 ek, .int .i64 ec, .int .i64 ea, .int .u32 ev, .int .u32 en, .bool ed, .bool own] 46 (0, 0))) := Hid.in (by rw [← hw1]; exact ((below_alloc wx _).block X (blk_lt HX.out)).trans HX.out)
            have HXD2 : Hid (X2 ∉ Si ∧ X2 ∉ Ri ∧ w.heap.size ≤ X2 ∧ X ≠ X2) := Hid.in (by rw [← hX2]; exact ⟨HTX.out.a.p.far (Nat.le_refl _), HTX.out.m.far (Nat.le_refl _), HTX.out.a.b.size, by have := blk_lt HX.out; omega⟩)
            rw [hX2]
            clear hw1 hX2 HX HTX a0 b3 b4 b5 b6 b7 b8
            have a9 := blk_cell (i := 9) HX1.out rfl
            go_upto_if 91 with fail
            go_cut [] (fun wd => ∃ (k2 c2 a2 v2 z2 : Int) (d2 : Bool), wd.heap[X2]? = some (.cells #[.int .i64 k2, .int .i64 c2, .int .i64 a2, .int .u32 v2, .int .u32 z2, .bool d2] 24 (0, 0)) ∧ wd.heap[X]? = some (.cells #[.int .i64 1, .int .i64 qc, .int .i64 qa, .int .i64 ek, .int .i64 ec, .int .i64 ea, .int .u32 ev, .int .u32 en, .bool ed, .bool own] 46 (0, 0)) ∧ Two w wd q Si i s p Ri i s)
            case first =>
              cases own with
              | false =>
                go_wp2
                go_meet
                case rel => exact ⟨_, _, _, _, _, _, HX2.out, HX1.out, HT1.out⟩
              | true =>
                obtain ⟨e', he⟩ : ∃ e', fitE s.1 s.2 ⟨ek, ec, ea, ev, en, ed⟩ = e' := ⟨_, rfl⟩
                have HFE := Hid.in he
                clear he
                obtain ⟨k2, c2, a2, v2, z2, d2⟩ := e'
                have f0 := blk_cell (i := 0) HX2.out rfl
                have f1 := blk_cell (i := 1) HX2.out rfl
                have f2 := blk_cell (i := 2) HX2.out rfl
                have f3 := blk_cell (i := 3) HX2.out rfl
                have f4 := blk_cell (i := 4) HX2.out rfl
                have f5 := blk_cell (i := 5) HX2.out rfl
                clear a9
                go_wp2_with fail
                refine (fit_c w1 p i Ri s.1 s.2 HT1.out.m (by omega) ek ec ea ev en ed _ HFE.out).mono ?_
                rintro r w2 ⟨rfl, hb⟩
                have HX3 := Hid.in ((hb.block X2 (blk_lt HX2.out)).trans HX2.out)
                have HX4 := Hid.in ((hb.block X (blk_lt HX1.out)).trans HX1.out)
                have HT2 := Hid.in (HT1.out.step hb)
                clear hb HT1 HX1 HX2 f0 f1 f2 f3 f4 f5
                have g0 := blk_cell (i := 0) HX3.out rfl
                have g1 := blk_cell (i := 1) HX3.out rfl
                have g2 := blk_cell (i := 2) HX3.out rfl
                have g3 := blk_cell (i := 3) HX3.out rfl
                have g4 := blk_cell (i := 4) HX3.out rfl
                have g5 := blk_cell (i := 5) HX3.out rfl
                have zf0 : w2.frozen? ⟨X2, 0, none⟩ = false := blk_free HX3.out
                have zf1 : w2.frozen? ⟨X2, 1, none⟩ = false := blk_free HX3.out
                have zf2 : w2.frozen? ⟨X2, 2, none⟩ = false := blk_free HX3.out
                have zf3 : w2.frozen? ⟨X2, 3, none⟩ = false := blk_free HX3.out
                have zf4 : w2.frozen? ⟨X2, 4, none⟩ = false := blk_free HX3.out
                have zf5 : w2.frozen? ⟨X2, 5, none⟩ = false := blk_free HX3.out
                go_wp2
                generalize hw4 : World.setCell _ ⟨X2, 5, none⟩ _ = w4
                have HS6 : Hid (w4.heap[X2]? = some (.cells #[.int .i64 k2, .int .i64 c2, .int .i64 a2, .int .u32 v2, .int .u32 z2, .bool d2] 24 (0, 0)) ∧ Fr [X2] w2 w4) := Hid.in (by rw [← hw4]; exact set6 HX3.out (.int .i64 k2) (.int .i64 c2) (.int .i64 a2) (.int .u32 v2) (.int .u32 z2) (.bool d2))
                clear hw4
                go_meet
                case rel => exact ⟨k2, c2, a2, v2, z2, d2, HS6.out.1, (HS6.out.2.block X (blk_lt HX4.out) (fun h => HXD2.out.2.2.2 (List.mem_singleton.1 h))).trans HX4.out, HT2.out.fr HS6.out.2 (fun k hk h => HXD2.out.1 (by rw [← List.mem_singleton.1 h]; exact hk)) (fun k hk h => HXD2.out.2.1 (by rw [← List.mem_singleton.1 h]; exact hk)) (fun k hk => by rw [List.mem_singleton.1 hk]; exact HXD2.out.2.2.1)⟩
            case rest =>
              obtain ⟨k2, c2, a2, v2, z2, d2, hx2, hx, hT⟩ := hcut
              clear HX1 HX2 HT1 a9
              have HX2 := Hid.in hx2
              have HX3 := Hid.in hx
              have HT3 := Hid.in hT
              clear hx2 hx hT
              rename World => w3
              obtain ⟨r0, hr0⟩ : ∃ r0, refP s.1 s.2 ⟨k2, c2, a2, v2, z2, d2⟩ = r0 := ⟨_, rfl⟩
              have HC : Hid (r0 ≤ 10) := Hid.in (by rw [← hr0]; exact refP_le _ _ _)
              obtain ⟨s', hs'⟩ : ∃ s', stepS s ⟨k2, c2, a2, v2, z2, d2⟩ = s' := ⟨_, rfl⟩
              have HL : Hid (s'.1.length = nA ∧ s'.2.length = nM) := Hid.in (by rw [← hs', stepS_len1, stepS_len2]; exact ⟨HSA.out, HSM.out⟩)
              have HR0 := Hid.in hr0
              have HS' := Hid.in hs'
              clear hr0 hs'
              have f0 := blk_cell (i := 0) HX2.out rfl
              have f1 := blk_cell (i := 1) HX2.out rfl
              have f2 := blk_cell (i := 2) HX2.out rfl
              have f3 := blk_cell (i := 3) HX2.out rfl
              have f4 := blk_cell (i := 4) HX2.out rfl
              have f5 := blk_cell (i := 5) HX2.out rfl
              go_wp2_with fail
              refine (tstep_c w3 sa (HE.out.below HT3.out.a.b) q i Si s.1 s.2 HT3.out.a.p (by omega) k2 c2 a2 v2 z2 d2 r0 HR0.out).mono ?_
              rintro r w4 ⟨rfl, S4, hTT⟩
              have HT4 : Hid (Two w w4 q S4 (i + 1) s' p Ri i s) := Hid.in (by
                have h := HT3.out.turned (s' := stepS s ⟨k2, c2, a2, v2, z2, d2⟩) hTT
                rw [HS'.out] at h
                exact h)
              have HX4 := Hid.in ((hTT.f.block X2 (blk_lt HX2.out) HXD2.out.1).trans HX2.out)
              have HX5 := Hid.in ((hTT.f.block X (blk_lt HX3.out) HXD.out.1).trans HX3.out)
              have HXS : Hid (X ∉ S4) := Hid.in (fun h => by
                rcases hTT.s X h with h1 | h1
                · exact HXD.out.1 h1
                · have := blk_lt HX3.out; omega)
              clear hTT HT3 HX2 HX3 f0 f1 f2 f3 f4 f5
              have g0 := blk_cell (i := 0) HX4.out rfl
              have g1 := blk_cell (i := 1) HX4.out rfl
              have g2 := blk_cell (i := 2) HX4.out rfl
              have g3 := blk_cell (i := 3) HX4.out rfl
              have g4 := blk_cell (i := 4) HX4.out rfl
              have g5 := blk_cell (i := 5) HX4.out rfl
              go_wp2_with fail
              refine (rstep_c w4 p i Ri s.1 s.2 HT4.out.m (by omega) k2 c2 a2 v2 z2 d2 r0 HR0.out).mono ?_
              rintro r w5 ⟨rfl, R5, hRT⟩
              have HT5 : Hid (Two w w5 q S4 (i + 1) s' p R5 (i + 1) s') := Hid.in (by
                have h := HT4.out.rturned (t' := stepS s ⟨k2, c2, a2, v2, z2, d2⟩) hRT
                rw [HS'.out] at h
                exact h)
              have h1 := blk_cell (i := 1) ((hRT.f.block X2 (blk_lt HX4.out) HXD2.out.2.1).trans HX4.out) rfl
              have HX6 := Hid.in ((hRT.f.block X (blk_lt HX5.out) HXD.out.2.1).trans HX5.out)
              have HXR : Hid (X ∉ R5) := Hid.in (fun h => by
                rcases hRT.s X h with h1 | h1
                · exact HXD.out.2.1 h1
                · have := blk_lt HX5.out; omega)
              clear hRT HT4 HX4 HX5 g0 g1 g2 g3 g4 g5
              go_wp2_with fail
              refine (kIs_perr opTStep c2 r0 HC.out w5 sa (HE.out.below HT5.out.a.b)).mono ?_
              rintro r w6 ⟨rfl, hb⟩
              have HT6 := Hid.in (HT5.out.step hb)
              have HX7 := Hid.in ((hb.block X (blk_lt HX6.out)).trans HX6.out)
              clear hb HT5 HX6 h1
              go_wp2_with fail
              refine (kOnly_perr opTStep c2 r0 HC.out w6 sa (HE.out.below HT6.out.a.b)).mono ?_
              rintro r w7 ⟨rfl, hb⟩
              have HT7 := Hid.in (HT6.out.step hb)
              have HX8 := Hid.in ((hb.block X (blk_lt HX7.out)).trans HX7.out)
              clear hb HT6 HX7
              go_wp2
              go_meet
              case rel => exact ⟨s', S4, R5, HX8.out, HT7.out, HXS.out, HXR.out, HL.out.1, HL.out.2⟩
        by_cases k3 : kd = 3
        · as_aux_lemma =>
            subst k3
            have j1 : ((3 : Int) == 1) = false := by decide
            go_wp2_with fail
            refine (ttwin_c wx q i Si s.1 s.2 HTX.out.a.p (by omega)).mono ?_
            rintro r w1 ⟨t, T, rfl, hP, hb, hs⟩
            have HT1 : Hid (Tri w w1 q Si i s p Ri i s t T i s none 0 0 []) := Hid.in (Tri.made HTX.out hP hb hs)
            have HX1 := Hid.in ((hb.block X (blk_lt HX.out)).trans HX.out)
            have HXT : Hid (X ∉ T) := Hid.in (fun h => by have := hs X h; have := blk_lt HX.out; omega)
            clear hP hb hs HX HTX a0
            have a3 := blk_cell (i := 3) HX1.out rfl
            have a4 := blk_cell (i := 4) HX1.out rfl
            have a5 := blk_cell (i := 5) HX1.out rfl
            have a6 := blk_cell (i := 6) HX1.out rfl
            have a7 := blk_cell (i := 7) HX1.out rfl
            have a8 := blk_cell (i := 8) HX1.out rfl
            obtain ⟨e', he⟩ : ∃ e', fitE s.1 s.2 ⟨ek, ec, ea, ev, en, ed⟩ = e' := ⟨_, rfl⟩
            have HFE := Hid.in he
            clear he
            obtain ⟨k2, c2, a2, v2, z2, d2⟩ := e'
            go_wp2_with fail
            refine (fit_c w1 p i Ri s.1 s.2 HT1.out.two.m (by omega) ek ec ea ev en ed _ HFE.out).mono ?_
            rintro r w2 ⟨rfl, hb⟩
            have HT2 := Hid.in (HT1.out.step hb)
            have HX2 := Hid.in ((hb.block X (blk_lt HX1.out)).trans HX1.out)
            clear hb HT1 HX1 a3 a4 a5 a6 a7 a8
            go_wp2_with fail
            refine (tstep_c w2 sa (HE.out.below HT2.out.two.a.b) t i T s.1 s.2 HT2.out.tw (by omega) k2 c2 a2 v2 z2 d2 _ rfl).mono ?_
            rintro r w3 ⟨rfl, T3, hTT⟩
            have HT3 := Hid.in (HT2.out.tturned (u' := stepS s ⟨k2, c2, a2, v2, z2, d2⟩) hTT)
            have HX3 := Hid.in ((hTT.f.block X (blk_lt HX2.out) HXT.out).trans HX2.out)
            have HXT3 : Hid (X ∉ T3) := Hid.in (fun h => by
              rcases hTT.s X h with h1 | h1
              · exact HXT.out h1
              · have := blk_lt HX2.out; omega)
            clear hTT HT2 HX2
            generalize perr sa _ opTStep c2 = pv
            generalize stepS s ⟨k2, c2, a2, v2, z2, d2⟩ = s3 at HT3
            go_wp2_with fail
            refine (tstep_c w3 sa (HE.out.below HT3.out.two.a.b) t (i + 1) T3 s3.1 s3.2 HT3.out.tw (by omega) 2 0 0 0 0 false _ rfl).mono ?_
            rintro r w4 ⟨rfl, T4, hTT⟩
            have HT4 := Hid.in (HT3.out.tturned (u' := stepS s3 ⟨2, 0, 0, 0, 0, false⟩) hTT)
            have HX4 := Hid.in ((hTT.f.block X (blk_lt HX3.out) HXT3.out).trans HX3.out)
            clear hTT HT3 HX3
            generalize perr sa _ opTStep 0 = pw
            go_wp2
            go_meet
            case rel => exact ⟨s, Si, Ri, HX4.out, ⟨⟨HT4.out.two.a.p.mono (Nat.le_succ _), HT4.out.two.a.b, HT4.out.two.a.s⟩, HT4.out.two.m.mono (Nat.le_succ _), HT4.out.two.b, HT4.out.two.d⟩, HXD.out.1, HXD.out.2.1, HSA.out, HSM.out⟩
        · as_aux_lemma =>
            have j1 : (kd == 1) = false := by simpa using k1
            have j3 : (kd == 3) = false := by simpa using k3
            go_wp2
            go_meet
            case rel => exact ⟨s, Si, Ri, HX.out, ⟨⟨HTX.out.a.p.mono (Nat.le_succ _), HTX.out.a.b, HTX.out.a.s⟩, HTX.out.m.mono (Nat.le_succ _), HTX.out.b, HTX.out.d⟩, HXD.out.1, HXD.out.2.1, HSA.out, HSM.out⟩
      case rest =>
        obtain ⟨s', S', R', hx, hT, hxs, hxr, hsA, hsM⟩ := hcut
        clear HX HTX HXD HSA HSM a0
        have HX := Hid.in hx
        have HT := Hid.in hT
        have HXD := Hid.in (And.intro hxs hxr)
        have HSA := Hid.in hsA
        have HSM := Hid.in hsM
        clear hx hT hxs hxr hsA hsM
        rename World => wd
        have a1 := blk_cell (i := 1) HX.out rfl
        have a2 := blk_cell (i := 2) HX.out rfl
        obtain ⟨isb, v, hv⟩ : ∃ (isb : Bool) (v : Int), (isb = true ∧ ((0 ≤ qc ∧ qc < (nA : Int)) ∧ 0 ≤ qa ∧ qa < (nM : Int)) ∧ rdL (s'.1.getD qc.toNat []) s'.2 qa.toNat = v) ∨ (isb = false ∧ ¬ ((0 ≤ qc ∧ qc < (nA : Int)) ∧ 0 ≤ qa ∧ qa < (nM : Int)) ∧ v = 0) := by
          by_cases h : (0 ≤ qc ∧ qc < (nA : Int)) ∧ 0 ≤ qa ∧ qa < (nM : Int)
          · exact ⟨true, _, .inl ⟨rfl, h, rfl⟩⟩
          · exact ⟨false, 0, .inr ⟨rfl, h, rfl⟩⟩
        have HV := Hid.in hv
        clear hv
        go_upto_region 27 with fail
        go_cut [18, 19] (fun x y we => x = .int .u32 v ∧ y = .bool isb ∧ Below wd.heap.size wd we)
        case first =>
          as_aux_lemma =>
            rcases HV.out with ⟨rfl, ⟨⟨c0, c1⟩, b0, b1⟩, hrd⟩ | ⟨rfl, hno, rfl⟩
            · obtain ⟨c, rfl⟩ : ∃ m : Nat, qc = (m : Int) := ⟨qc.toNat, by omega⟩
              obtain ⟨a, rfl⟩ : ∃ m : Nat, qa = (m : Int) := ⟨qa.toNat, by omega⟩
              have HRD := Hid.in (tread_c wd q (i + 1) S' s'.1 s'.2 HT.out.a.p (by omega) c a (by rw [HSA.out]; omega) (by rw [HSM.out]; omega) v hrd)
              clear c0 c1 b0 b1 hrd
              go_wp2_with fail
              refine HRD.out.mono ?_
              rintro r w1 ⟨rfl, hb⟩
              have HB := Hid.in hb
              clear hb
              go_wp2
              go_meet
              case rel => exact ⟨rfl, rfl, HB.out⟩
            · have HRD := Hid.in (tread_no wd q (i + 1) S' s'.1 s'.2 HT.out.a.p qc qa (by
                rw [HSA.out, HSM.out]
                by_cases h : 0 ≤ qc ∧ qc ≤ (nA : Int) - 1
                · exact .inr (wB_no (fun h2 => hno ⟨⟨h.1, by omega⟩, h2.1, by omega⟩))
                · exact .inl (wB_no h)))
              clear hno
              go_wp2_with fail
              refine HRD.out.mono ?_
              rintro r w1 ⟨rfl, rfl⟩
              go_wp2
              go_meet
              case rel => exact ⟨rfl, rfl, Below.refl _ _⟩
        case rest =>
          obtain ⟨rfl, rfl, hb⟩ := hcut
          rename World => we
          have HTE := Hid.in (HT.out.step hb)
          have HXE := Hid.in ((hb.block X (blk_lt HX.out)).trans HX.out)
          clear hb HT HX a1 a2
          have a1 := blk_cell (i := 1) HXE.out rfl
          have a2 := blk_cell (i := 2) HXE.out rfl
          obtain ⟨ab, capb, am, capm, hq⟩ := HTE.out.m.blk
          rw [HSA.out, HSM.out] at hq
          have HQB := Hid.in hq
          have k0 := blk_cell (i := 0) hq rfl
          have k1 := blk_cell (i := 1) hq rfl
          clear hq
          go_upto_region 28 with fail
          go_cut [20] (fun x wf => x = .bool isb ∧ Below we.heap.size we wf)
          case first =>
            as_aux_lemma =>
              rcases HV.out with ⟨rfl, ⟨⟨c0, c1⟩, b0, b1⟩, _⟩ | ⟨rfl, hno, rfl⟩
              · go_quiet (fail)
                go_wp2
                go_meet
                case rel => exact ⟨rfl, drewN_below (Below.refl _ _) _⟩
              · have HNO := Hid.in hno
                clear hno
                by_cases c0 : 0 ≤ qc
                · by_cases c1 : qc < (nA : Int)
                  · by_cases b0 : 0 ≤ qa
                    · have b1 : ¬ qa < (nM : Int) := fun h => HNO.out ⟨⟨c0, c1⟩, b0, h⟩
                      have n1 : ∀ n : Kin (fun W => Below we.heap.size we W), n.of.cell? ⟨X, 1, none⟩ = some (.int .i64 qc) := fun n => blk_cell ((n.in.block X (blk_lt HXE.out)).trans HXE.out) rfl
                      have n2 : ∀ n : Kin (fun W => Below we.heap.size we W), n.of.cell? ⟨X, 2, none⟩ = some (.int .i64 qa) := fun n => blk_cell ((n.in.block X (blk_lt HXE.out)).trans HXE.out) rfl
                      have n3 : ∀ n : Kin (fun W => Below we.heap.size we W), n.of.cell? ⟨p, 0, none⟩ = some (.slice ab nA capb) := fun n => blk_cell ((n.in.block p (blk_lt HQB.out)).trans HQB.out) rfl
                      have n4 : ∀ n : Kin (fun W => Below we.heap.size we W), n.of.cell? ⟨p, 1, none⟩ = some (.slice am nM capm) := fun n => blk_cell ((n.in.block p (blk_lt HQB.out)).trans HQB.out) rfl
                      clear a1 a2 k0 k1
                      refine wp_region_kin (C := fun W => Below we.heap.size we W) (by kernel_rfl) (by kernel_rfl) (Below.refl _ _).drew (fun hne => ?_)
                      repeat (go_big_quiet_step (fail))
                      refine wpQuiet_nil ?_
                      rintro w6 ⟨n, rfl⟩
                      have HN6 := Hid.in n.in
                      clear n1 n2 n3 n4
                      go_wp2
                      go_meet
                      case rel => exact ⟨rfl, HN6.out⟩
                    · skip
                      have n1 : ∀ n : Kin (fun W => Below we.heap.size we W), n.of.cell? ⟨X, 1, none⟩ = some (.int .i64 qc) := fun n => blk_cell ((n.in.block X (blk_lt HXE.out)).trans HXE.out) rfl
                      have n2 : ∀ n : Kin (fun W => Below we.heap.size we W), n.of.cell? ⟨X, 2, none⟩ = some (.int .i64 qa) := fun n => blk_cell ((n.in.block X (blk_lt HXE.out)).trans HXE.out) rfl
                      have n3 : ∀ n : Kin (fun W => Below we.heap.size we W), n.of.cell? ⟨p, 0, none⟩ = some (.slice ab nA capb) := fun n => blk_cell ((n.in.block p (blk_lt HQB.out)).trans HQB.out) rfl
                      have n4 : ∀ n : Kin (fun W => Below we.heap.size we W), n.of.cell? ⟨p, 1, none⟩ = some (.slice am nM capm) := fun n => blk_cell ((n.in.block p (blk_lt HQB.out)).trans HQB.out) rfl
                      clear a1 a2 k0 k1
                      refine wp_region_kin (C := fun W => Below we.heap.size we W) (by kernel_rfl) (by kernel_rfl) (Below.refl _ _).drew (fun hne => ?_)
                      repeat (go_big_quiet_step (fail))
                      refine wpQuiet_nil ?_
                      rintro w6 ⟨n, rfl⟩
                      have HN6 := Hid.in n.in
                      clear n1 n2 n3 n4
                      go_wp2
                      go_meet
                      case rel => exact ⟨rfl, HN6.out⟩
                  · skip
                    have n1 : ∀ n : Kin (fun W => Below we.heap.size we W), n.of.cell? ⟨X, 1, none⟩ = some (.int .i64 qc) := fun n => blk_cell ((n.in.block X (blk_lt HXE.out)).trans HXE.out) rfl
                    have n2 : ∀ n : Kin (fun W => Below we.heap.size we W), n.of.cell? ⟨X, 2, none⟩ = some (.int .i64 qa) := fun n => blk_cell ((n.in.block X (blk_lt HXE.out)).trans HXE.out) rfl
                    have n3 : ∀ n : Kin (fun W => Below we.heap.size we W), n.of.cell? ⟨p, 0, none⟩ = some (.slice ab nA capb) := fun n => blk_cell ((n.in.block p (blk_lt HQB.out)).trans HQB.out) rfl
                    have n4 : ∀ n : Kin (fun W => Below we.heap.size we W), n.of.cell? ⟨p, 1, none⟩ = some (.slice am nM capm) := fun n => blk_cell ((n.in.block p (blk_lt HQB.out)).trans HQB.out) rfl
                    clear a1 a2 k0 k1
                    refine wp_region_kin (C := fun W => Below we.heap.size we W) (by kernel_rfl) (by kernel_rfl) (Below.refl _ _).drew (fun hne => ?_)
                    repeat (go_big_quiet_step (fail))
                    refine wpQuiet_nil ?_
                    rintro w6 ⟨n, rfl⟩
                    have HN6 := Hid.in n.in
                    clear n1 n2 n3 n4
                    go_wp2
                    go_meet
                    case rel => exact ⟨rfl, HN6.out⟩
                · skip
                  have n1 : ∀ n : Kin (fun W => Below we.heap.size we W), n.of.cell? ⟨X, 1, none⟩ = some (.int .i64 qc) := fun n => blk_cell ((n.in.block X (blk_lt HXE.out)).trans HXE.out) rfl
                  have n2 : ∀ n : Kin (fun W => Below we.heap.size we W), n.of.cell? ⟨X, 2, none⟩ = some (.int .i64 qa) := fun n => blk_cell ((n.in.block X (blk_lt HXE.out)).trans HXE.out) rfl
                  have n3 : ∀ n : Kin (fun W => Below we.heap.size we W), n.of.cell? ⟨p, 0, none⟩ = some (.slice ab nA capb) := fun n => blk_cell ((n.in.block p (blk_lt HQB.out)).trans HQB.out) rfl
                  have n4 : ∀ n : Kin (fun W => Below we.heap.size we W), n.of.cell? ⟨p, 1, none⟩ = some (.slice am nM capm) := fun n => blk_cell ((n.in.block p (blk_lt HQB.out)).trans HQB.out) rfl
                  clear a1 a2 k0 k1
                  refine wp_region_kin (C := fun W => Below we.heap.size we W) (by kernel_rfl) (by kernel_rfl) (Below.refl _ _).drew (fun hne => ?_)
                  repeat (go_big_quiet_step (fail))
                  refine wpQuiet_nil ?_
                  rintro w6 ⟨n, rfl⟩
                  have HN6 := Hid.in n.in
                  clear n1 n2 n3 n4
                  go_wp2
                  go_meet
                  case rel => exact ⟨rfl, HN6.out⟩
          case rest =>
            obtain ⟨rfl, hb⟩ := hcut
            rename World => wf
            have HTF := Hid.in (HTE.out.step hb)
            have HXF := Hid.in ((hb.block X (blk_lt HXE.out)).trans HXE.out)
            have HQF := Hid.in ((hb.block p (blk_lt HQB.out)).trans HQB.out)
            clear hb HTE HXE HQB a1 a2 k0 k1
            have a1 := blk_cell (i := 1) HXF.out rfl
            have a2 := blk_cell (i := 2) HXF.out rfl
            go_upto_if 165 with fail
            go_cut [21] (fun x wg => x = .int .u32 v ∧ wg = wf)
            case first =>
              as_aux_lemma =>
                rcases HV.out with ⟨rfl, ⟨⟨c0, c1⟩, b0, b1⟩, hrd⟩ | ⟨rfl, _, rfl⟩
                · obtain ⟨c, rfl⟩ : ∃ m : Nat, qc = (m : Int) := ⟨qc.toNat, by omega⟩
                  obtain ⟨a, rfl⟩ : ∃ m : Nat, qa = (m : Int) := ⟨qa.toNat, by omega⟩
                  have HRD := Hid.in (rread_c wf p (i + 1) R' s'.1 s'.2 HTF.out.m (by omega) c a (by rw [HSA.out]; omega) (by rw [HSM.out]; omega) v hrd)
                  clear c0 c1 b0 b1 hrd
                  go_wp2_with fail
                  refine HRD.out.mono ?_
                  rintro r w1 ⟨rfl, rfl⟩
                  go_wp2
                  go_meet
                  case rel => exact ⟨rfl, rfl⟩
                · go_wp2
                  go_meet
                  case rel => exact ⟨rfl, rfl⟩
            case rest =>
              obtain ⟨rfl, hwg⟩ := hcut
              subst hwg
              rename World => wf
              clear HV a1 a2
              have k0 := blk_cell (i := 0) HQF.out rfl
              go_upto_region 32 with fail
              go_cut [189] (fun x wg => x = .bool false ∧ Below wf.heap.size wf wg)
              case first =>
                as_aux_lemma =>
                  have hqc : cellIs p 1 (.slice am nM capm) wf.drew := blk_cell (i := 1) HQF.out rfl
                  refine wp_region_but (fun W => cellIs p 1 (.slice am nM capm) W) 17 (by kernel_rfl) ?_
                  have HS : Hid (cellIs p 1 (.slice am nM capm) wf.drew) := Hid.in hqc
                  clear hqc
                  refine wpBut_take (i := 0) (v := ?_) rfl (by kernel_rfl) (by kernel_rfl) (by exact fun _ _ _ h => h) HS.out (Or.inl ⟨by rfl, ?_⟩) ?_
                  case refine_2 => (intro w hSw; simp only [cellIs] at hSw; go_simp; try with_reducible rfl)
                  simp only [Act.put, List.setIfInBounds_toArray, List.set_cons_zero, List.set_cons_succ]
                  refine wpBut_take (i := 1) (v := ?_) rfl (by kernel_rfl) (by kernel_rfl) (by exact fun _ _ _ h => h) HS.out (Or.inl ⟨by rfl, ?_⟩) ?_
                  case refine_2 => (intro w hSw; simp only [cellIs] at hSw; go_simp; try with_reducible rfl)
                  simp only [Act.put, List.setIfInBounds_toArray, List.set_cons_zero, List.set_cons_succ]
                  refine wpBut_take (i := 2) (v := ?_) rfl (by kernel_rfl) (by kernel_rfl) (by exact fun _ _ _ h => h) HS.out (Or.inl ⟨by rfl, ?_⟩) ?_
                  case refine_2 => (intro w hSw; simp only [cellIs] at hSw; go_simp; try with_reducible rfl)
                  simp only [Act.put, List.setIfInBounds_toArray, List.set_cons_zero, List.set_cons_succ]
                  refine wpBut_take (i := 3) (v := ?_) rfl (by kernel_rfl) (by kernel_rfl) (by exact fun _ _ _ h => h) HS.out (Or.inl ⟨by rfl, ?_⟩) ?_
                  case refine_2 => (intro w hSw; simp only [cellIs] at hSw; go_simp; try with_reducible rfl)
                  simp only [Act.put, List.setIfInBounds_toArray, List.set_cons_zero, List.set_cons_succ]
                  refine wpBut_take (i := 4) (v := ?_) rfl (by kernel_rfl) (by kernel_rfl) (by exact fun _ _ _ h => h) HS.out (Or.inl ⟨by rfl, ?_⟩) ?_
                  case refine_2 => (intro w hSw; simp only [cellIs] at hSw; go_simp; try with_reducible rfl)
                  simp only [Act.put, List.setIfInBounds_toArray, List.set_cons_zero, List.set_cons_succ]
                  refine wpBut_take (i := 5) (v := ?_) rfl (by kernel_rfl) (by kernel_rfl) (by exact fun _ _ _ h => h) HS.out (Or.inl ⟨by rfl, ?_⟩) ?_
                  case refine_2 => (intro w hSw; simp only [cellIs] at hSw; go_simp; try with_reducible rfl)
                  simp only [Act.put, List.setIfInBounds_toArray, List.set_cons_zero, List.set_cons_succ]
                  refine wpBut_take (i := 6) (v := ?_) rfl (by kernel_rfl) (by kernel_rfl) (by exact fun _ _ _ h => h) HS.out (Or.inl ⟨by rfl, ?_⟩) ?_
                  case refine_2 => (intro w hSw; simp only [cellIs] at hSw; go_simp; try with_reducible rfl)
                  simp only [Act.put, List.setIfInBounds_toArray, List.set_cons_zero, List.set_cons_succ]
                  refine wpBut_take (i := 7) (v := ?_) rfl (by kernel_rfl) (by kernel_rfl) (by exact fun _ _ _ h => h) HS.out (Or.inl ⟨by rfl, ?_⟩) ?_
                  case refine_2 => (intro w hSw; simp only [cellIs] at hSw; go_simp; try with_reducible rfl)
                  simp only [Act.put, List.setIfInBounds_toArray, List.set_cons_zero, List.set_cons_succ]
                  refine wpBut_take (i := 8) (v := ?_) rfl (by kernel_rfl) (by kernel_rfl) (by exact fun _ _ _ h => h) HS.out (Or.inl ⟨by rfl, ?_⟩) ?_
                  case refine_2 => (intro w hSw; simp only [cellIs] at hSw; go_simp; try with_reducible rfl)
                  simp only [Act.put, List.setIfInBounds_toArray, List.set_cons_zero, List.set_cons_succ]
                  refine wpBut_take (i := 9) (v := ?_) rfl (by kernel_rfl) (by kernel_rfl) (by exact fun _ _ _ h => h) HS.out (Or.inl ⟨by rfl, ?_⟩) ?_
                  case refine_2 => (intro w hSw; simp only [cellIs] at hSw; go_simp; try with_reducible rfl)
                  simp only [Act.put, List.setIfInBounds_toArray, List.set_cons_zero, List.set_cons_succ]
                  refine wpBut_take (i := 11) (v := ?_) rfl (by kernel_rfl) (by kernel_rfl) (by exact fun _ _ _ h => h) HS.out (Or.inl ⟨by rfl, ?_⟩) ?_
                  case refine_2 => (intro w hSw; simp only [cellIs] at hSw; go_simp; try with_reducible rfl)
                  simp only [Act.put, List.setIfInBounds_toArray, List.set_cons_zero, List.set_cons_succ]
                  refine wpBut_take (i := 12) (v := ?_) rfl (by kernel_rfl) (by kernel_rfl) (by exact fun _ _ _ h => h) HS.out (Or.inl ⟨by rfl, ?_⟩) ?_
                  case refine_2 => (intro w hSw; simp only [cellIs] at hSw; go_simp; try with_reducible rfl)
                  simp only [Act.put, List.setIfInBounds_toArray, List.set_cons_zero, List.set_cons_succ]
                  refine wpBut_take (i := 13) (v := ?_) rfl (by kernel_rfl) (by kernel_rfl) (by exact fun _ _ _ h => h) HS.out (Or.inl ⟨by rfl, ?_⟩) ?_
                  case refine_2 => (intro w hSw; simp only [cellIs] at hSw; go_simp; try with_reducible rfl)
                  simp only [Act.put, List.setIfInBounds_toArray, List.set_cons_zero, List.set_cons_succ]
                  refine wpBut_take (i := 14) (v := ?_) rfl (by kernel_rfl) (by kernel_rfl) (by exact fun _ _ _ h => h) HS.out (Or.inl ⟨by rfl, ?_⟩) ?_
                  case refine_2 => (intro w hSw; simp only [cellIs] at hSw; go_simp; try with_reducible rfl)
                  simp only [Act.put, List.setIfInBounds_toArray, List.set_cons_zero, List.set_cons_succ]
                  refine wpBut_one (i := 10) rfl (by kernel_rfl) (fun K HK => ?_)
                  go_simp
                  refine (tmem_c wf.drew q (i + 1) S' s'.1 s'.2 (HTF.out.a.p.step (Below.refl _ _).drew)).mono ?_
                  rw [HSM.out]
                  rintro r w1 ⟨a5, p5, rfl, hM, hb⟩
                  have HB1 := Hid.in (bstep ((Below.refl wf.heap.size wf).drew) (Nat.le_refl _) hb)
                  have HU1 := Hid.in (Rows'.us hM)
                  have HS1 : Hid (cellIs p 1 (.slice am nM capm) w1) := Hid.in ((hb.cell (p := ⟨p, 1, none⟩) (lt_cell HS.out)).trans HS.out)
                  clear hM hb
                  refine HK.out _ _ (fun _ => HS1.out) ?_
                  clear HK K HS
                  try simp only [Act.put, List.setIfInBounds_toArray, List.set_cons_zero, List.set_cons_succ]
                  refine wpBut_one (i := 15) rfl (by kernel_rfl) (fun K HK => ?_)
                  go_simp
                  obtain ⟨am', capm', hcm, hUM⟩ := (HTF.out.step HB1.out).m.mrow
                  have hcm2 := HS1.out
                  unfold cellIs at hcm2
                  rw [HSM.out, hcm2] at hcm
                  cases hcm
                  have HUM := Hid.in hUM
                  clear hUM hcm2
                  have hm8 : nM ≤ 1000000 := by have := H4.out; omega
                  refine (sameU_any w1 a5 am nM nM p5 capm s'.2 s'.2 HSM.out HSM.out HU1.out HUM.out hm8 true (decide_eq_true rfl)).mono ?_
                  rintro r w2 ⟨rfl, hb⟩
                  have HB2 := Hid.in (bstep HB1.out (Nat.le_refl _) hb)
                  have HS2 : Hid (cellIs p 1 (.slice am nM capm) w2) := Hid.in ((hb.cell (p := ⟨p, 1, none⟩) (lt_cell HS1.out)).trans HS1.out)
                  clear hb HB1
                  refine HK.out _ _ (fun _ => HS2.out) ?_
                  clear HK K HS1
                  try simp only [Act.put, List.setIfInBounds_toArray, List.set_cons_zero, List.set_cons_succ]
                  have HS := HS2
                  refine wpBut_take (i := 16) (v := ?_) rfl (by kernel_rfl) (by kernel_rfl) (by exact fun _ _ _ h => h) HS.out (Or.inl ⟨by rfl, ?_⟩) ?_
                  case refine_2 => (intro w hSw; simp only [cellIs] at hSw; go_simp; try with_reducible rfl)
                  simp only [Act.put, List.setIfInBounds_toArray, List.set_cons_zero, List.set_cons_succ]
                  refine wpBut_one (i := 17) rfl (by kernel_rfl) (fun K HK => ?_)
                  go_simp
                  refine HK.out _ _ (fun h => absurd rfl h) ?_
                  clear HK K HS HS2
                  refine wpBut_done (by kernel_rfl) ?_ _
                  go_wp2_with fail
                  go_meet
                  case rel => exact ⟨rfl, HB2.out⟩
              case rest =>
                obtain ⟨rfl, hb⟩ := hcut
                rename World => wg
                have HTG := Hid.in (HTF.out.step hb)
                have HQG := Hid.in ((hb.block p (blk_lt HQF.out)).trans HQF.out)
                clear hb HTF HXF HQF k0
                have k0 := blk_cell (i := 0) HQG.out rfl
                have hA64 := H2.out
                go_wp2
                go_loopw [22] (fun x wr => ∃ k : Int, -1 ≤ k ∧ k ≤ (nA : Int) + 1 ∧ x = .int .i64 k ∧ wr = wg) (fun x _ => ((nA : Int) + 1 - intOf x).toNat)
                case atStart => exact ⟨-1, by omega, by omega, rfl, rfl⟩
                case round =>
                  obtain ⟨k, hk0, hk1, rfl, rfl⟩ := hrel
                  by_cases hle : k ≤ (nA : Int)
                  · by_cases hin2 : 0 ≤ k ∧ k < (nA : Int)
                    · obtain ⟨u0, u1⟩ := hin2
                      obtain ⟨c, rfl⟩ : ∃ m : Nat, k = (m : Int) := ⟨k.toNat, by omega⟩
                      obtain ⟨bb, bo, capb', rao, rcap, m0, m1, _, _, _, _⟩ := HTG.out.m.row (i := c) (by rw [HSA.out]; omega)
                      obtain ⟨n, hn⟩ : ∃ n, (s'.1.getD c []).length = n := ⟨_, rfl⟩
                      rw [hn] at m1
                      rw [HSA.out, k0] at m0
                      cases m0
                      have HWT := Hid.in (twait_c _ q (i + 1) S' s'.1 s'.2 HTG.out.a.p c (by rw [HSA.out]; omega) n hn)
                      clear hn
                      go_wp2_with fail
                      refine HWT.out.mono ?_
                      rintro r w2 ⟨rfl, rfl⟩
                      clear HWT
                      go_wp2
                      go_roundw
                      case rel => exact ⟨(c : Int) + 1, by omega, by omega, by go_num, trivial⟩
                      case measure => simp [intOf]; omega
                    · have HWT := Hid.in (twait_no _ q (i + 1) S' s'.1 s'.2 HTG.out.a.p k (by rw [HSA.out]; exact wB_no (fun h => hin2 ⟨h.1, by omega⟩)))
                      by_cases u0 : 0 ≤ k
                      · have u1 : ¬ k < (nA : Int) := by omega
                        clear hin2
                        go_wp2_with fail
                        refine HWT.out.mono ?_
                        rintro r w2 ⟨rfl, rfl⟩
                        clear HWT
                        go_wp2
                        go_roundw
                        case rel => exact ⟨k + 1, by omega, by omega, by go_num, trivial⟩
                        case measure => simp [intOf]; omega
                      · clear hin2
                        go_wp2_with fail
                        refine HWT.out.mono ?_
                        rintro r w2 ⟨rfl, rfl⟩
                        clear HWT
                        go_wp2
                        go_roundw
                        case rel => exact ⟨k + 1, by omega, by omega, by go_num, trivial⟩
                        case measure => simp [intOf]; omega
                  · go_wp2
                    go_roundw
                    case rel => exact ⟨i + 1, s', S', R', by omega, by omega, by go_num, HTG.out, HSA.out, HSM.out⟩
                    case measure => simp [intOf]; omega
    · by_cases hin : i < ln
      · have i1 : (i : Int) < (ln : Int) := by omega
        have i2 : ¬ (i : Int) < 60 := by omega
        go_wp2_with fail
        refine (tsoRuns_any _ sa (HE.out.below HTi.out.a.b)).mono ?_
        rintro r w3 ⟨rfl, hb⟩
        have HB3 := Hid.in (bstep HTi.out.a.b (Nat.le_refl _) hb)
        clear hb
        go_wp2
        go_ret
        exact ⟨rfl, HB3.out⟩
      · have i1 : ¬ (i : Int) < (ln : Int) := by omega
        go_wp2_with fail
        refine (tsoRuns_any _ sa (HE.out.below HTi.out.a.b)).mono ?_
        rintro r w3 ⟨rfl, hb⟩
        have HB3 := Hid.in (bstep HTi.out.a.b (Nat.le_refl _) hb)
        clear hb
        go_wp2
        go_ret
        exact ⟨rfl, HB3.out⟩
theorem tsoPlays_any (w : World) (sa : Nat → Addr) (hE : Env10 w sa) (c0 n0 : Int) (al : Option Addr) (ln capl : Nat) (hQ : AsksW w al ln) :
    Calls Tryd.prog 4 #[.int .i64 c0, .int .i64 n0, .slice al ln capl] w fun r w' => r = .returned (.bool true) ∧ Below w.heap.size w w' := by
  by_cases h : (1 ≤ c0 ∧ c0 ≤ 64) ∧ 1 ≤ n0 ∧ n0 ≤ 128
  · obtain ⟨nA, rfl⟩ : ∃ m : Nat, c0 = (m : Int) := ⟨c0.toNat, by omega⟩
    obtain ⟨nM, rfl⟩ : ∃ m : Nat, n0 = (m : Int) := ⟨n0.toNat, by omega⟩
    exact tsoPlays_ok w sa hE nA nM (by omega) (by omega) (by omega) (by omega) al ln capl hQ
  · by_cases h1 : 1 ≤ c0
    · by_cases h2 : c0 ≤ 64
      · exact tsoPlays_nil1 w sa hE c0 n0 h h1 h2 al ln capl
      · exact tsoPlays_nil2 w sa hE c0 n0 h h1 h2 al ln capl
    · exact tsoPlays_nil3 w sa hE c0 n0 h h1 al ln capl
end Go.Proofs.YtncgjclehplfeaaDoor

/- DERIVED of the program: PlruTurns returns true. Own work. -/
import Derived.Test.YthajdkdgakckgaaPlRow
namespace Go.Proofs.Ythajdkdgakckgaa
open Go.RowKit Go.Extern.Stop Go.Stop Go.Extern

/-- Bools as cells. -/
def bvs (l : List Bool) : Array Value := (l.map Value.bool).toArray
theorem bvs_get {l : List Bool} {k : Nat} {x : Bool} (h : l[k]? = some x) : (bvs l)[k]? = some (.bool x) := by
  simp [bvs, h]
theorem bvs_set (l : List Bool) (k : Nat) (x : Bool) : (bvs l).setIfInBounds k (.bool x) = bvs (l.set k x) := by
  apply Array.toList_inj.1
  simp [bvs, List.map_set]

theorem turnS_succ (ways : Int) (i b : Nat) : turnS ways (i + 1) b = (touchI (turnS ways i b).1 ways (victimI (turnS ways i b).1 ways), (turnS ways i b).2.set (victimI (turnS ways i b).1 ways).toNat true) := rfl
theorem okT_of {ways : Int} {p : Nat × List Bool} (h : okT ways p = true) : p.1 < 256 ∧ 0 ≤ victimI p.1 ways ∧ victimI p.1 ways < ways ∧ p.2.length = 8 ∧ p.2[(victimI p.1 ways).toNat]? = some false := by
  simp only [okT, Bool.and_eq_true, decide_eq_true_eq] at h
  exact ⟨h.1.1.1.1, h.1.1.1.2, h.1.1.2, h.1.2, h.2⟩

set_option maxHeartbeats 1600000 in
set_option maxRecDepth 20000 in
theorem plruTurns_any (w : World) (b : Nat) (hb : b < 256) (n : Int) (ao : Option Addr) (cap : Nat) (zs : List Int) (hZ : Ints w ao cap zs) :
    Calls Try.prog 5 #[.int .u8 (b : Int), .int .i64 n, .slice ao zs.length cap] w fun r w' => r = .returned (.bool true) ∧ Below w.heap.size w w' := by
  obtain ⟨q, hq⟩ : ∃ q, q = wI n 0 3 := ⟨_, rfl⟩
  have hq2 := wI_le n 0 3 (by omega)
  rw [← hq] at hq2
  have HQ := Hid.in hq.symm
  clear hq
  have HZ := Hid.in hZ
  clear hZ
  go_enter Try.func5, Try.ntmps5
  go_wp2_with fail
  refine (within_c n 0 3 q _ (by omega) (by omega) (by omega) HQ.out).mono ?_
  rintro r w' ⟨rfl, rfl⟩
  go_upto_region 2 with fail
  go_cut [7, 8] (fun v i wd => ∃ ways, v = .int .i64 ways ∧ i = .int .i64 0 ∧ isW ways ∧ wd = w')
  case first =>
    go_wp2
    go_meet
    case rel => exact ⟨_, rfl, rfl, isW_pow hq2, rfl⟩
  case rest =>
  obtain ⟨ways, rfl, rfl, hw, hwd⟩ := hcut
  subst hwd
  rename World => w
  have HW := Hid.in hw
  have h4 : ways = 1 ∨ ways = 2 ∨ ways = 4 ∨ ways = 8 := hw
  have HB := Hid.in hb
  clear hw hq2 HQ
  go_wp2
  go_loopw [0, 8, 9, 10] (fun s i _ _ wr => ∃ k B : Nat, k ≤ zs.length ∧ k ≤ 60 ∧ i = .int .i64 (k : Int) ∧ s = .int .u8 (B : Int) ∧ B < 256 ∧ wr = w) (fun _ i _ _ _ => 60 - (intOf i).toNat)
  case atStart => exact ⟨0, b, by omega, by omega, rfl, rfl, HB.out, rfl⟩
  case round =>
    obtain ⟨k, B, hk, hk60, rfl, rfl, hB, rfl⟩ := hrel
    have HB2 := Hid.in hB
    clear hB
    by_cases h : k < zs.length ∧ k < 60
    · obtain ⟨g, o, rfl, hc⟩ := HZ.out.cell k h.1
      generalize zs[k] = z at hc
      have h1 : (k : Int) < zs.length := by omega
      have h2 : (k : Int) < 60 := by omega
      have h3 : k < zs.length := h.1
      clear h
      obtain ⟨y, hy⟩ : ∃ q, wI z 0 (ways - 1) = q := ⟨_, rfl⟩
      have hy2 := wI_le z 0 (ways - 1) (by omega)
      rw [hy] at hy2
      have HY := Hid.in hy
      obtain ⟨f1, f2, f3⟩ := turned (b := B) (y := y) HW.out HB2.out (by omega) (by omega)
      have hC1 := touchI_lt HB2.out ways y
      obtain ⟨C, hC⟩ : ∃ C, touchI B ways y = C := ⟨_, rfl⟩
      rw [hC] at f1 f2 f3 hC1
      obtain ⟨V, hV⟩ : ∃ V, victimI C ways = V := ⟨_, rfl⟩
      rw [hV] at f1 f2 f3
      have HC := Hid.in hC
      have HV := Hid.in hV
      have HC1 := Hid.in hC1
      have HF := Hid.in f3
      clear hC hV hC1 f3 hy
      have hn0 : ¬ V < 0 := by omega
      have hn1 : ¬ ways ≤ V := by omega
      by_cases hone : 1 < ways
      · have hne : (V == y) = false := by have := HF.out; simp; omega
        go_wp2_with fail
        refine (within_c z 0 (ways - 1) y _ (by omega) (by omega) (by omega) HY.out).mono ?_
        rintro r w' ⟨rfl, rfl⟩
        go_wp2_with fail
        refine (touch_c B ways y C HB2.out HC.out _).mono ?_
        rintro r w' ⟨rfl, rfl⟩
        go_wp2_with fail
        refine (victim_c C ways V HC1.out HV.out _).mono ?_
        rintro r w' ⟨rfl, rfl⟩
        go_wp2
        go_roundw
        case rel => exact ⟨k + 1, C, by omega, by omega, by go_num, rfl, HC1.out, trivial⟩
        case measure => simp [intOf]; omega
      · go_wp2_with fail
        refine (within_c z 0 (ways - 1) y _ (by omega) (by omega) (by omega) HY.out).mono ?_
        rintro r w' ⟨rfl, rfl⟩
        go_wp2_with fail
        refine (touch_c B ways y C HB2.out HC.out _).mono ?_
        rintro r w' ⟨rfl, rfl⟩
        go_wp2_with fail
        refine (victim_c C ways V HC1.out HV.out _).mono ?_
        rintro r w' ⟨rfl, rfl⟩
        go_wp2
        go_roundw
        case rel => exact ⟨k + 1, C, by omega, by omega, by go_num, rfl, HC1.out, trivial⟩
        case measure => simp [intOf]; omega
    · have HKK : Hid ((k : Int) < zs.length ∧ (k : Int) = 60 ∨ ¬ (k : Int) < zs.length) := Hid.in (by omega)
      clear h hk hk60
      rename World => wz
      rcases HKK.out with ⟨h1, h2⟩ | h1
      all_goals
        clear HKK
        go_wp2
        go_loopw [0, 12, 13] (fun s i _ wr => ∃ (j C : Nat) (L : List Bool), (j : Int) ≤ ways ∧ i = .int .i64 (j : Int) ∧ s = .int .u8 (C : Int) ∧ turnS ways j B = (C, L) ∧ Below wz.heap.size wz wr ∧ wr.heap[wz.heap.size]? = some (.cells (bvs L) 28 (0, 0))) (fun _ i _ _ => 8 - (intOf i).toNat)
        case atStart => exact ⟨0, B, _, by omega, rfl, rfl, rfl, below_alloc _ _, heap_alloc_new _ _⟩
        case round =>
          obtain ⟨j, C, L, hj, rfl, rfl, ht, hbl, hhp⟩ := hrel
          have HT := Hid.in ht
          have HBL := Hid.in hbl
          have HHP := Hid.in hhp
          clear ht hbl hhp
          by_cases h : (j : Int) < ways
          · obtain ⟨f1, f2, f3, f4, f5⟩ := okT_of (turnok HW.out HB2.out h)
            have hs := turnS_succ ways j B
            rw [HT.out] at f1 f2 f3 f4 f5 hs
            simp only [] at f1 f2 f3 f4 f5 hs
            obtain ⟨V, hV⟩ : ∃ V, victimI C ways = V := ⟨_, rfl⟩
            rw [hV] at f2 f3 f5 hs
            obtain ⟨v, rfl⟩ : ∃ v : Nat, V = (v : Int) := ⟨V.toNat, by omega⟩
            rw [Int.toNat_natCast] at f5 hs
            obtain ⟨D, hD⟩ : ∃ D, touchI C ways (v : Int) = D := ⟨_, rfl⟩
            rw [hD] at hs
            have HS := Hid.in hs
            have HV := Hid.in hV
            have HD := Hid.in hD
            have HC1 := Hid.in f1
            have hc : wr.cell? ⟨wz.heap.size, v, none⟩ = some (.bool false) := blk_cell HHP.out (bvs_get f5)
            have hfr : wr.frozen? ⟨wz.heap.size, v, none⟩ = false := blk_free HHP.out
            have hv8 : v < 8 := by omega
            clear hs hV hD f1 f2 f4 f5
            go_wp2_with fail
            refine (victim_c C ways v HC1.out HV.out _).mono ?_
            rintro r w' ⟨rfl, rfl⟩
            go_wp2_with fail
            refine (touch_c C ways v D HC1.out HD.out _).mono ?_
            rintro r w2 ⟨rfl, rfl⟩
            go_wp2
            go_roundw
            case rel => exact ⟨j + 1, D, _, by omega, by go_num, rfl, HS.out, HBL.out.setCell (Nat.le_refl _) _, by rw [← bvs_set]; exact blk_set _ HHP.out⟩
            case measure => simp [intOf]; omega
          · go_wp2_with fail
            refine (plruRuns_any _).mono ?_
            rintro r w' ⟨rfl, rfl⟩
            go_wp2
            go_ret
            exact ⟨rfl, HBL.out⟩

end Go.Proofs.Ythajdkdgakckgaa

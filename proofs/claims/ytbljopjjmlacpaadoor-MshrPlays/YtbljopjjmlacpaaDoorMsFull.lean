/- DERIVED of the program: MshrFull returns true. Own work. -/
import Derived.Test.YtbljopjjmlacpaaDoorMsB
namespace Go.Proofs.YtbljopjjmlacpaaDoor
open Go.RowKit Go.Extern.Stop Go.Stop Go.Extern

/-- The table with that many lines under way. -/
def fuK : Nat → List Int
  | 0 => newK
  | i + 1 => (fuK i).set (2 * i) 2
theorem fuK_add : ∀ n, n < 9 → ∀ i, i < n → addK n (fuK i) (2 * (i : Int)) 2 = (0, fuK (i + 1)) := by decide +kernel
theorem fuK_len : ∀ i, i < 9 → (allK (fuK i)).length = i := by decide +kernel
theorem fuK_1 : ∀ i, i < 9 → (fuK i).getD 1 0 = 0 := by decide +kernel
theorem fuK_0 : ∀ i, i < 9 → 1 ≤ i → (fuK i).getD 0 0 ≠ 0 := by decide +kernel
theorem fuK_full {n : Nat} (hn : n < 9) (k : Int) (hk : wB k 1 4 = true) : addK n (fuK n) 1 k = (6, fuK n) := by
  have := addK_at n (fuK n) 1 (by decide) k hk
  rw [if_neg (fun h => h (fuK_1 n hn)), if_pos (by rw [fuK_len n hn]; exact Nat.le_refl _)] at this
  exact this
theorem fuK_busy {n : Nat} (hn : n < 9) (h1 : 1 ≤ n) (k : Int) (hk : wB k 1 4 = true) : addK n (fuK n) 0 k = (7, fuK n) := by
  have := addK_at n (fuK n) 0 (by decide) k hk
  rw [if_pos (fuK_0 n hn h1)] at this
  exact this

theorem kOnly_flt (op : ByteArray) (n : Int) (c : Nat) (h1 : 1 ≤ c) (h2 : c ≤ 10) (w : World) (sa : Nat → Addr) (hE : Env10 w sa) :
    Calls Tryd.prog 17 #[flt op n (snt (sa c)), .int .i64 c] w fun r w' => r = .returned (.bool true) ∧ Below w.heap.size w w' := kOnly_chn [(op, n)] c h1 h2 w sa hE

set_option maxHeartbeats 1600000 in
theorem mshrFull_any (w : World) (sa : Nat → Addr) (hE : Env10 w sa) (n0 n1 : Int) : Calls Tryd.prog 7 #[.int .i64 n0, .int .i64 n1] w fun r w' => r = .returned (.bool true) ∧ Below w.heap.size w w' := by
  have HE := Hid.in hE
  clear hE
  have hw0 := wI_le n0 1 8 (by omega)
  have hw1 := wI_le n1 1 4 (by omega)
  obtain ⟨n, hn⟩ : ∃ n : Nat, wI n0 1 8 = (n : Int) := ⟨(wI n0 1 8).toNat, by omega⟩
  obtain ⟨k, hk⟩ : ∃ k : Int, wI n1 1 4 = k := ⟨_, rfl⟩
  have h1 : 1 ≤ n := by omega
  have h8 : n ≤ 8 := by omega
  have HK : Hid (wB k 1 4 = true) := Hid.in (wB_yes (by rw [← hk]; exact hw1))
  have HN := Hid.in hn
  have HKK := Hid.in hk
  clear hw0 hw1 hn hk
  go_enter Tryd.func7, Tryd.ntmps7
  go_wp2_with fail
  refine (within_i n0 1 8 w (by omega) (by omega) (by omega)).mono ?_
  rw [HN.out]
  rintro r w' ⟨rfl, rfl⟩
  go_wp2_with fail
  refine (mnew_ok w' n h1 h8).mono ?_
  rintro r w1 ⟨rfl, hT, hb⟩
  have HT1 := Hid.in hT
  have HB1 := Hid.in hb
  clear hT hb
  go_wp2
  go_loopw [8] (fun c wr => ∃ i : Nat, i ≤ n ∧ c = .int .i64 (i : Int) ∧ Tbl wr w'.heap.size n (fuK i) ∧ Below w'.heap.size w' wr) (fun c _ => 8 - (intOf c).toNat)
  case atStart => exact ⟨0, Nat.zero_le _, rfl, HT1.out, HB1.out⟩
  case round =>
    obtain ⟨i, hi, rfl, hT, hb⟩ := hrel
    have HT := Hid.in hT
    have HB := Hid.in hb
    clear hT hb HT1 HB1
    by_cases hlt : i < n
    · have i1 : (i : Int) < (n : Int) := by omega
      go_wp2_with fail
      refine (mfull_c _ _ n _ HT.out false (by rw [fuK_len i (by omega)]; simp; omega)).mono ?_
      rintro r w2 ⟨rfl, hb⟩
      have HT2 := Hid.in (HT.out.step hb)
      have HB2 := Hid.in (bstep HB.out (Nat.le_refl _) hb)
      clear hb
      go_wp2_with fail
      refine (madd_c w2 sa (HE.out.below HB2.out) _ n _ HT2.out _ 2 0 (fuK (i + 1)) (fuK_add n (by omega) i hlt)).mono ?_
      rintro r w3 ⟨rfl, hT, hp⟩
      have HT3 := Hid.in hT
      have HB3 := Hid.in (hp.below HB2.out (Nat.le_refl _) HB2.out.size)
      clear hT hp
      rw [perr_none]
      go_wp2
      go_roundw
      case rel => exact ⟨i + 1, by omega, by go_num, HT3.out, HB3.out⟩
      case measure => simp [intOf]; omega
    · obtain rfl : i = n := by omega
      go_wp2_with fail
      refine (within_i n1 1 4 _ (by omega) (by omega) (by omega)).mono ?_
      rw [HKK.out]
      rintro r wr ⟨rfl, rfl⟩
      go_wp2_with fail
      refine (madd_c wr sa (HE.out.below HB.out) _ i _ HT.out 1 k 6 (fuK i) (fuK_full (by omega) k HK.out)).mono ?_
      rintro r w2 ⟨rfl, hT, hp⟩
      have HT2 := Hid.in hT
      have HB2 := Hid.in (hp.below HB.out (Nat.le_refl _) HB.out.size)
      clear hT hp
      rw [perr_some _ _ _ _ (by decide)]
      go_wp2_with fail
      refine (madd_c w2 sa (HE.out.below HB2.out) _ i _ HT2.out 0 k 7 (fuK i) (fuK_busy (by omega) h1 k HK.out)).mono ?_
      rintro r w3 ⟨rfl, hT, hp⟩
      have HT3 := Hid.in hT
      have HB3 := Hid.in (hp.below HB2.out (Nat.le_refl _) HB2.out.size)
      clear hT hp
      rw [perr_some _ _ _ _ (by decide)]
      go_wp2_with fail
      refine (madd_c w3 sa (HE.out.below HB3.out) _ i _ HT3.out 32 k 1 (fuK i) (addK_arg _ _ _ _ (.inl (by decide)))).mono ?_
      rintro r w4 ⟨rfl, hT, hp⟩
      have HT4 := Hid.in hT
      have HB4 := Hid.in (hp.below HB3.out (Nat.le_refl _) HB3.out.size)
      clear hT hp
      rw [perr_some _ _ _ _ (by decide)]
      go_wp2_with fail
      refine (madd_c w4 sa (HE.out.below HB4.out) _ i _ HT4.out 0 5 1 (fuK i) (addK_arg _ _ _ _ (.inr (by decide)))).mono ?_
      rintro r w5 ⟨rfl, hT, hp⟩
      have HT5 := Hid.in hT
      have HB5 := Hid.in (hp.below HB4.out (Nat.le_refl _) HB4.out.size)
      clear hT hp
      rw [perr_some _ _ _ _ (by decide)]
      go_wp2_with fail
      refine (mfull_c w5 _ i _ HT5.out true (by rw [fuK_len i (by omega)]; simp)).mono ?_
      rintro r w6 ⟨rfl, hb⟩
      have HT6 := Hid.in (HT5.out.step hb)
      have HB6 := Hid.in (bstep HB5.out (Nat.le_refl _) hb)
      clear hb
      go_wp2_with fail
      refine (kOnly_flt _ _ 6 (by omega) (by omega) w6 sa (HE.out.below HB6.out)).mono ?_
      rintro r w7 ⟨rfl, hb⟩
      have HT7 := Hid.in (HT6.out.step hb)
      have HB7 := Hid.in (bstep HB6.out (Nat.le_refl _) hb)
      clear hb
      go_wp2_with fail
      refine (kOnly_flt _ _ 7 (by omega) (by omega) w7 sa (HE.out.below HB7.out)).mono ?_
      rintro r w8 ⟨rfl, hb⟩
      have HT8 := Hid.in (HT7.out.step hb)
      have HB8 := Hid.in (bstep HB7.out (Nat.le_refl _) hb)
      clear hb
      go_wp2_with fail
      refine (kOnly_flt _ _ 1 (by omega) (by omega) w8 sa (HE.out.below HB8.out)).mono ?_
      rintro r w9 ⟨rfl, hb⟩
      have HT9 := Hid.in (HT8.out.step hb)
      have HB9 := Hid.in (bstep HB8.out (Nat.le_refl _) hb)
      clear hb
      go_wp2_with fail
      refine (kOnly_flt _ _ 1 (by omega) (by omega) w9 sa (HE.out.below HB9.out)).mono ?_
      rintro r w10 ⟨rfl, hb⟩
      have HT10 := Hid.in (HT9.out.step hb)
      have HB10 := Hid.in (bstep HB9.out (Nat.le_refl _) hb)
      clear hb
      go_wp2_with fail
      refine (mlist_c w10 _ i _ HT10.out i (fuK_len i (by omega))).mono ?_
      rintro r w11 ⟨ao, cap, rfl, _, hb⟩
      have HB11 := Hid.in (bstep HB10.out (Nat.le_refl _) hb)
      clear hb
      go_wp2_with fail
      refine (mshrRuns_any w11 sa (HE.out.below HB11.out)).mono ?_
      rintro r w12 ⟨rfl, hb⟩
      have HB12 := Hid.in (bstep HB11.out (Nat.le_refl _) hb)
      clear hb
      go_wp2
      go_ret
      exact ⟨rfl, HB12.out⟩

end Go.Proofs.YtbljopjjmlacpaaDoor

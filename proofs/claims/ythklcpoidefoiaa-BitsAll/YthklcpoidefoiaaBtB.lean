/- DERIVED of the program: (Set).List, the document's own List and Count, assentbook.Same of numbers. Own work. -/
import Derived.Test.YthklcpoidefoiaaBtA
namespace Go.Proofs.Ythklcpoidefoiaa
open Go.RowKit Go.Extern.Stop Go.Stop Go.Extern

/-- The list as numbers. -/
def lsn (n x : Nat) : List Int := (lstn n x).map (fun i : Nat => (i : Int))
def lsI (x : Nat) : List Int := lsn 64 x
theorem lsI_eq (x : Nat) : lsI x = (lst x).map (fun i : Nat => (i : Int)) := rfl
theorem lsn_length (n x : Nat) : (lsn n x).length = (lstn n x).length := by simp [lsn]
theorem lsI_length (x : Nat) : (lsI x).length = cnt x := lsn_length 64 x
theorem lsn_yes {n x : Nat} (h : x.testBit n = true) : lsn (n + 1) x = lsn n x ++ [(n : Int)] := by unfold lsn; rw [lstn_yes h]; simp
theorem lsn_no {n x : Nat} (h : x.testBit n = false) : lsn (n + 1) x = lsn n x := by unfold lsn; rw [lstn_no h]
theorem lsn_rng (n x : Nat) (hn : n ≤ 64) : ∀ z ∈ lsn n x, 0 ≤ z ∧ z < 64 := by
  intro z hz
  unfold lsn at hz
  obtain ⟨i, hi, rfl⟩ := List.mem_map.1 hz
  have := (mem_lstn.1 hi).1
  omega
theorem lsI_rng (x : Nat) : ∀ z ∈ lsI x, -9223372036854775808 ≤ z ∧ z ≤ 9223372036854775807 := fun z hz => by
  have := lsn_rng 64 x (Nat.le_refl _) z hz
  omega
theorem ofS_lsI {x : Nat} (hx : x < 18446744073709551616) : ofS (lsI x) = x := ofS_lst hx

set_option maxHeartbeats 1600000 in
set_option maxRecDepth 20000 in
theorem list_any (x : Nat) (hx : x < 18446744073709551616) (w : World) :
    Calls Try.prog 14 #[.int .u64 (x : Int)] w fun r w' => ∃ ao c, r = .returned (.slice ao (cnt x) c) ∧ OwnI w' w.heap.size ao (cnt x) c (lsI x) ∧ Below w.heap.size w w' := by
  obtain ⟨i0, hi, hz0, hz1, hz2⟩ := info_parts Try.infoInt
  have HI := Hid.in (And.intro hi (And.intro hz0 (And.intro hz1 hz2)))
  clear hi hz0 hz1 hz2
  obtain ⟨N, hN⟩ : ∃ N, N = cnt x := ⟨_, rfl⟩
  have hN64 : N ≤ 64 := by rw [hN]; exact cnt_le x
  obtain ⟨Z, hZ⟩ : ∃ Z, Z = List.replicate N (Value.int .i64 0) := ⟨_, rfl⟩
  have HZZ := Hid.in hZ
  have HN := Hid.in hN
  clear hZ hN
  go_enter Try.func14, Try.ntmps14
  go_wp2_with fail
  refine (count_any x hx w).mono ?_
  rw [← HN.out]
  rintro r w' ⟨rfl, rfl⟩
  go_upto_region 2 with (at_make; refine wpList_make_ints _ rfl _ _ 28 rfl 3 i0 Try.underlying28 HI.out.1 HI.out.2.1 HI.out.2.2.1 HI.out.2.2.2 _ _ _ _ 0 N rfl rfl rfl (by omega) (by omega) (by omega) Z HZZ.out ?_)
  have HG : Hid (OwnI (w'.alloc (.cells Z.toArray 3)) w'.heap.size (some ⟨w'.heap.size, 0, none⟩) 0 N []) := Hid.in (by
    refine OwnI.room (Nat.le_refl _) (by unfold maxLen; omega) ?_
    rw [← HZZ.out]; exact heap_alloc_new _ _)
  go_wp2
  go_loopw [3, 8] (fun l i wr => ∃ (k : Nat) (a : Option Addr) (c : Nat), k ≤ 64 ∧ i = .int .i64 (k : Int) ∧ l = .slice a (lstn k x).length c ∧ OwnI wr w'.heap.size a (lstn k x).length c (lsn k x) ∧ Below w'.heap.size w' wr) (fun _ i _ => 64 - (intOf i).toNat)
  case atStart => exact ⟨0, _, _, by omega, rfl, rfl, HG.out, below_alloc _ _⟩
  case round =>
    obtain ⟨k, a, c, hk, rfl, rfl, hO, hb⟩ := hrel
    have HO := Hid.in hO
    have HB := Hid.in hb
    have HL := Hid.in (lstn_len k x)
    clear hO hb HG
    by_cases h : k < 64
    · go_wp2_with fail
      refine (has_any x hx k wr).mono ?_
      rw [hasS_nat h]
      cases hb : x.testBit k with
      | true =>
        have HY := Hid.in (lsn_yes hb)
        have HY2 := Hid.in (lstn_yes hb)
        clear hb
        rintro r w1 ⟨rfl, rfl⟩
        go_wp2_with (first | (at_builtin; refine wpList_pushI rfl (.tmp 14) (.tmp 16) rfl w'.heap.size w' a w1.heap.size (lstn k x).length c (lsn k x) (k : Int) rfl (HO.out.step (below_alloc _ _)) rfl (by simp) (HB.out.alloc HB.out.size _) (by have := HB.out.size; simp; omega) (by have := HL.out; omega) ?_; intro a3 c3 w3 HO3 HB3) | fail)
        go_roundw
        case rel => exact ⟨k + 1, a3, c3, by omega, by go_num, by rw [HY2.out]; simp, by rw [HY.out, HY2.out, List.length_append]; exact HO3.out, HB3.out⟩
        case measure => simp [intOf]; omega
      | false =>
        have HY := Hid.in (lsn_no hb)
        have HY2 := Hid.in (lstn_no hb)
        clear hb
        rintro r w1 ⟨rfl, rfl⟩
        go_wp2
        go_roundw
        case rel => exact ⟨k + 1, a, c, by omega, by go_num, by rw [HY2.out], by rw [HY.out, HY2.out]; exact HO.out, HB.out⟩
        case measure => simp [intOf]; omega
    · have hk64 : k = 64 := by omega
      subst hk64
      go_wp2
      go_ret
      exact ⟨a, c, rfl, HO.out, HB.out⟩

theorem shr_bit (x k : Nat) (hx : x < 18446744073709551616) : bits .and .u64 ((x : Int) / 2 ^ k) 1 = (if x.testBit k then 1 else 0) := by
  have h1 : (x : Int) / 2 ^ k = ((x / 2 ^ k : Nat) : Int) := by simp
  rw [h1, and1 _ (Nat.lt_of_le_of_lt (Nat.div_le_self _ _) hx), Nat.testBit_eq_decide_div_mod_eq]
  rcases Nat.mod_two_eq_zero_or_one (x / 2 ^ k) with h | h
  · simp [h]; omega
  · simp [h]; omega

set_option maxHeartbeats 1600000 in
set_option maxRecDepth 20000 in
theorem refList_any (x : Nat) (hx : x < 18446744073709551616) (w : World) :
    Calls Try.prog 16 #[.int .u64 (x : Int)] w fun r w' => ∃ ao c, r = .returned (.slice ao (cnt x) c) ∧ OwnI w' w.heap.size ao (cnt x) c (lsI x) ∧ Below w.heap.size w w' := by
  go_enter Try.func16, Try.ntmps16
  go_wp2
  go_loopw [3, 4] (fun l i wr => ∃ (k : Nat) (a : Option Addr) (c : Nat), k ≤ 64 ∧ i = .int .i64 (k : Int) ∧ l = .slice a (lstn k x).length c ∧ OwnI wr w.heap.size a (lstn k x).length c (lsn k x) ∧ Below w.heap.size w wr) (fun _ i _ => 64 - (intOf i).toNat)
  case atStart => exact ⟨0, _, _, by omega, rfl, rfl, OwnI.nil _ _, Below.refl _ _⟩
  case round =>
    obtain ⟨k, a, c, hk, rfl, rfl, hO, hb⟩ := hrel
    have HO := Hid.in hO
    have HB := Hid.in hb
    have HL := Hid.in (lstn_len k x)
    clear hO hb
    by_cases h : k < 64
    · have hs := shr_bit x k hx
      have hkn : (k : Int).toNat = k := Int.toNat_natCast k
      have h64 : (k : Int) ≤ 64 := by omega
      cases hb : x.testBit k with
      | true =>
        rw [hb] at hs
        simp only [if_true] at hs
        have HY := Hid.in (lsn_yes hb)
        have HY2 := Hid.in (lstn_yes hb)
        clear hb
        go_wp2_with (first | (at_builtin; refine wpList_pushI rfl (.tmp 14) (.tmp 16) rfl w.heap.size w a wr.heap.size (lstn k x).length c (lsn k x) (k : Int) rfl (HO.out.step (below_alloc _ _)) rfl (by simp) (HB.out.alloc HB.out.size _) (by have := HB.out.size; simp; omega) (by have := HL.out; omega) ?_; intro a3 c3 w3 HO3 HB3) | fail)
        go_roundw
        case rel => exact ⟨k + 1, a3, c3, by omega, by go_num, by rw [HY2.out]; simp, by rw [HY.out, HY2.out, List.length_append]; exact HO3.out, HB3.out⟩
        case measure => simp [intOf]; omega
      | false =>
        rw [hb] at hs
        simp only [Bool.false_eq_true, if_false] at hs
        have HY := Hid.in (lsn_no hb)
        have HY2 := Hid.in (lstn_no hb)
        clear hb
        go_wp2
        go_roundw
        case rel => exact ⟨k + 1, a, c, by omega, by go_num, by rw [HY2.out], by rw [HY.out, HY2.out]; exact HO.out, HB.out⟩
        case measure => simp [intOf]; omega
    · have hk64 : k = 64 := by omega
      subst hk64
      go_wp2
      go_ret
      exact ⟨a, c, rfl, HO.out, HB.out⟩

theorem refCount_any (x : Nat) (hx : x < 18446744073709551616) (w : World) :
    Calls Try.prog 18 #[.int .u64 (x : Int)] w fun r w' => r = .returned (.int .i64 (cnt x : Nat)) ∧ w' = w := by
  have HX := Hid.in (cnt_le x)
  go_enter Try.func18, Try.ntmps18
  go_wp2
  go_loopw [0, 3] (fun s n wr => ∃ y k : Nat, s = .int .u64 (y : Int) ∧ n = .int .i64 (k : Int) ∧ y < 18446744073709551616 ∧ k + cnt y = cnt x ∧ wr = w) (fun s _ _ => (intOf s).toNat)
  case atStart => exact ⟨x, 0, rfl, rfl, hx, by omega, rfl⟩
  case round =>
    obtain ⟨y, k, rfl, rfl, hy, hk, rfl⟩ := hrel
    have HK := Hid.in hk
    have HH := Hid.in (cnt_half hy)
    have hk64 : k ≤ 64 := by have := HX.out; omega
    clear hk
    by_cases h : y = 0
    · subst h
      go_wp2
      go_ret
      exact ⟨ret_int (by have h1 := HK.out; rw [show cnt 0 = 0 from rfl] at h1; omega), rfl⟩
    · have hq : (0 : Int) < (y : Int) := by omega
      have ha := and1 y hy
      go_wp2
      go_roundw
      case rel => exact ⟨y / 2, k + y % 2, by go_num, by go_num, by omega, by have h1 := HK.out; have h2 := HH.out; omega, trivial⟩
      case measure => simp [intOf]; omega

theorem sameI_some (b1 o1 c1 b2 o2 c2 : Nat) (xs ys : List Int) (w : World) (hn : xs.length = ys.length) (hlen : xs.length ≤ 281474976710656)
    (hx : ∀ (k : Nat) (h : k < xs.length), w.cell? ⟨b1, o1 + k, none⟩ = some (.int .i64 xs[k])) (hy : ∀ (k : Nat) (h : k < ys.length), w.cell? ⟨b2, o2 + k, none⟩ = some (.int .i64 ys[k])) :
    Calls Try.prog 13 #[.slice (some ⟨b1, o1, none⟩) xs.length c1, .slice (some ⟨b2, o2, none⟩) xs.length c2] w fun r w' => r = .returned (.bool (decide (xs = ys))) ∧ Below w.heap.size w w' := by
  have HX := Hid.in hx
  have HY := Hid.in hy
  have HN := Hid.in hn
  clear hx hy hn
  go_enter Try.func13, Try.ntmps13
  go_wp2
  go_loopw [5] (fun i wr => ∃ k : Nat, k ≤ xs.length ∧ i = .int .i64 k ∧ xs.take k = ys.take k ∧ Below w.heap.size w wr) (fun i _ => xs.length - (intOf i).toNat)
  case atStart => exact ⟨0, Nat.zero_le _, rfl, rfl, Below.refl _ _⟩
  case round =>
    obtain ⟨k, hk, rfl, ht, hb⟩ := hrel
    have HT := Hid.in ht
    have HB := Hid.in hb
    clear ht hb
    by_cases hlt : k < xs.length
    · have hlt2 : k < ys.length := by have := HN.out; omega
      have h1 : wr.cell? ⟨b1, o1 + k, none⟩ = some (.int .i64 xs[k]) := (HB.out.cell (p := ⟨b1, o1 + k, none⟩) (lt_cell (HX.out k hlt))).trans (HX.out k hlt)
      have h2 : wr.cell? ⟨b2, o2 + k, none⟩ = some (.int .i64 ys[k]) := (HB.out.cell (p := ⟨b2, o2 + k, none⟩) (lt_cell (HY.out k hlt2))).trans (HY.out k hlt2)
      generalize hxx : xs[k] = x at h1
      generalize hyy : ys[k] = y at h2
      have HXX := Hid.in hxx
      have HYY := Hid.in hyy
      clear hxx hyy
      by_cases he : x = y
      · subst he
        go_wp2
        go_quiet (fail)
        all_goals
          go_wp2
          go_roundw
          case rel => exact ⟨k + 1, by omega, by go_num, by rw [List.take_succ_eq_append_getElem hlt, List.take_succ_eq_append_getElem (by have := HN.out; omega), HT.out, HXX.out, HYY.out], drewN_below HB.out _⟩
          case measure => simp [intOf]; omega
      · have hq : (x != y) = true := by simp; omega
        have HD : Hid (decide (xs = ys) = false) := Hid.in (decide_eq_false (fun e => he (by subst e; exact HXX.out.symm.trans HYY.out)))
        clear he
        go_wp2
        go_quiet (fail)
        all_goals
          go_wp2
          go_ret
          exact ⟨by rw [HD.out]; rfl, drewN_below HB.out _⟩
    · have HD : Hid (decide (xs = ys) = true) := Hid.in (decide_eq_true (by have h := HT.out; rw [List.take_of_length_le (by omega), List.take_of_length_le (by have := HN.out; omega)] at h; exact h))
      go_wp2
      go_ret
      exact ⟨by rw [HD.out]; rfl, HB.out⟩

theorem sameI_none (a1 a2 : Option Addr) (c1 c2 : Nat) (w : World) :
    Calls Try.prog 13 #[.slice a1 0 c1, .slice a2 0 c2] w fun r w' => r = .returned (.bool true) ∧ Below w.heap.size w w' := by
  go_enter Try.func13, Try.ntmps13
  go_wp2
  refine wp_loop_rounds 1 ?_
  rw [rounds_succ]
  go_wp2
  go_ret
  exact ⟨rfl, Below.refl _ _⟩

theorem sameI_other (a1 a2 : Option Addr) (n1 n2 c1 c2 : Nat) (w : World) (hn : ((n1 : Int) != (n2 : Int)) = true) :
    Calls Try.prog 13 #[.slice a1 n1 c1, .slice a2 n2 c2] w fun r w' => r = .returned (.bool false) ∧ Below w.heap.size w w' := by
  go_enter Try.func13, Try.ntmps13
  go_wp2
  go_ret
  exact ⟨rfl, Below.refl _ _⟩

theorem sameI_any (a1 a2 : Option Addr) (n1 n2 c1 c2 : Nat) (xs ys : List Int) (w : World) (h1 : n1 = xs.length) (h2 : n2 = ys.length) (hL1 : Ints w a1 c1 xs) (hL2 : Ints w a2 c2 ys) (hlen : xs.length ≤ 281474976710656) :
    Calls Try.prog 13 #[.slice a1 n1 c1, .slice a2 n2 c2] w fun r w' => r = .returned (.bool (decide (xs = ys))) ∧ Below w.heap.size w w' := by
  subst h1; subst h2
  by_cases hn : xs.length = ys.length
  · cases hx : xs with
    | nil =>
      obtain rfl : ys = [] := List.length_eq_zero_iff.1 (by rw [← hn, hx]; rfl)
      exact sameI_none a1 a2 c1 c2 w
    | cons x r =>
      rw [← hx, ← hn]
      have h0 : 0 < xs.length := by simp [hx]
      obtain ⟨b1, o1, rfl, _⟩ := hL1.cell 0 h0
      obtain ⟨b2, o2, rfl, _⟩ := hL2.cell 0 (by omega)
      refine sameI_some b1 o1 c1 b2 o2 c2 xs ys w hn hlen (fun k hk => ?_) (fun k hk => ?_)
      · obtain ⟨b', o', e, hc⟩ := hL1.cell k hk
        cases e
        exact hc
      · obtain ⟨b', o', e, hc⟩ := hL2.cell k hk
        cases e
        exact hc
  · rw [decide_eq_false (fun e => hn (by rw [e]))]
    exact sameI_other a1 a2 _ _ c1 c2 w (by simp; omega)

end Go.Proofs.Ythklcpoidefoiaa

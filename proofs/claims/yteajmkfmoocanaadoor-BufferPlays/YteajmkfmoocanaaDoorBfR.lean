/- DERIVED of the program: the document's own store buffer: New, Push, Forward, Head and Pop by their contracts. Own work. -/
import Derived.Test.YteajmkfmoocanaaDoorBfRuns
namespace Go.Proofs.YteajmkfmoocanaaDoor
open Go.RowKit Go.Extern.Stop Go.Stop Go.Extern

theorem Tryd.infoRWrite : (Tryd.prog.info? 52).map (fun i => (i.zero, i.size, i.bytes)) = some (some (.agg #[.int .i64 0, .int .u32 0]), 2, 16) := by kernel_rfl

theorem rbnew_arg (w : World) (n : Int) (h : wB n 1 8 = false) :
    Calls Tryd.prog 14 #[.int .i64 n] w fun r w' => r = .returned (.tuple #[.pointer none, .int .i64 1]) ∧ w' = w := by
  have h' := wB_not h
  clear h
  by_cases h1 : n < 1
  · clear h'
    go_enter Tryd.func14, Tryd.ntmps14
    go_wp2
    go_ret2
    exact ⟨rfl, rfl⟩
  · have h8 : 8 < n := by omega
    clear h'
    go_enter Tryd.func14, Tryd.ntmps14
    go_wp2
    go_ret2
    exact ⟨rfl, rfl⟩
theorem rbnew_ok (w : World) (m : Nat) (h1 : 1 ≤ m) (h8 : m ≤ 8) :
    Calls Tryd.prog 14 #[.int .i64 (m : Int)] w fun r w' => r = .returned (.tuple #[.pointer (some ⟨w.heap.size, 0, none⟩), .int .i64 0]) ∧ Buf 51 52 w' w.heap.size [w.heap.size] m [] ∧ Below w.heap.size w w' := by
  have i1 : ¬ (m : Int) < 1 := by omega
  have i8 : ¬ (8 : Int) < (m : Int) := by omega
  go_enter Tryd.func14, Tryd.ntmps14
  go_wp2
  go_ret2
  exact ⟨rfl, ⟨⟨none, 0, heap_alloc_new _ _, OwnA.nil _ _ _ _, rfl⟩, Nat.zero_le _, h8⟩, below_alloc _ _⟩

theorem rbpush_arg (w : World) (q : Nat) (a v : Int) (h : wB a 0 127 = false) :
    Calls Tryd.prog 15 #[.pointer (some ⟨q, 0, none⟩), .int .i64 a, .int .u32 v] w fun r w' => r = .returned (.int .i64 1) ∧ w' = w := by
  have h' := wB_not h
  clear h
  by_cases h1 : a < 0
  · clear h'
    go_enter Tryd.func15, Tryd.ntmps15
    go_wp2
    go_ret
    exact ⟨rfl, rfl⟩
  · have h8 : 128 ≤ a := by omega
    clear h'
    go_enter Tryd.func15, Tryd.ntmps15
    go_wp2
    go_ret
    exact ⟨rfl, rfl⟩
set_option maxRecDepth 20000 in
theorem rbpush_c (w : World) (q m : Nat) (S : List Nat) (L : List (Int × Int)) (hT : Buf 51 52 w q S m L) (a v : Int) (c : Nat) (L' : List (Int × Int)) (h : pushL m L a v = (c, L')) :
    Calls Tryd.prog 15 #[.pointer (some ⟨q, 0, none⟩), .int .i64 a, .int .u32 v] w fun r w' => ∃ S', r = .returned (.int .i64 c) ∧ Went 51 52 w w' q S S' m L' := by
  cases ha : wB a 0 127 with
  | false =>
    rw [pushL_arg v ha] at h
    cases h
    refine (rbpush_arg w q a v ha).mono ?_
    rintro r w' ⟨rfl, rfl⟩
    exact ⟨S, rfl, Went.same hT (Below.refl _ _)⟩
  | true =>
    have HT := Hid.in hT
    have ha2 := wB_of ha
    have a1 : ¬ a < 0 := by omega
    have a2 : ¬ 128 ≤ a := by omega
    clear ha2
    obtain ⟨⟨ao, cap, hq, hO, rfl⟩, hle, hm8⟩ := hT
    obtain ⟨N, hN⟩ : ∃ N, L.length = N := ⟨_, rfl⟩
    have hc0 : w.cell? ⟨q, 0, none⟩ = some (.int .i64 (m : Int)) := blk_cell hq rfl
    rw [hN] at hq hO hle
    have hc1 : w.cell? ⟨q, 1, none⟩ = some (.slice ao N cap) := blk_cell hq rfl
    have HL := Hid.in hN
    have HQ := Hid.in hq
    have HO := Hid.in hO
    by_cases hf : m ≤ N
    · rw [pushL_full v ha (by omega)] at h
      cases h
      have i1 : (m : Int) ≤ (N : Int) := by omega
      clear ha hq hO HO HQ hN HL hle hf
      go_enter Tryd.func15, Tryd.ntmps15
      go_wp2
      go_quiet (fail)
      go_wp2
      go_ret
      exact ⟨_, rfl, Went.same HT.out (drewN_below (Below.refl _ _) _)⟩
    · rw [pushL_ok v ha (by omega)] at h
      cases h
      have i1 : ¬ (m : Int) ≤ (N : Int) := by omega
      have hN8 : N + 1 ≤ 1000000 := by omega
      have HM : Hid (N + 1 ≤ m) := Hid.in (by omega)
      clear ha hq hO hN hle hf
      go_enter Tryd.func15, Tryd.ntmps15
      go_wp2
      go_quiet (fail)
      have hdm : decide (m ≤ N) = false := decide_eq_false (by have := HM.out; omega)
      have HB0 : Hid (Below w.heap.size w (w.drewN nq)) := Hid.in (drewN_below (Below.refl _ _) _)
      have HB1 : Hid (Below w.heap.size w ((w.drewN nq).alloc (.cells #[.int .i64 a, .int .u32 v] 52))) := Hid.in (HB0.out.alloc HB0.out.size _)
      have HR : Hid (Rows' 2 ((w.drewN nq).alloc (.cells #[.int .i64 a, .int .u32 v] 52)) (some ⟨w.heap.size, 0, none⟩) 1 [wc (a, v)]) := Hid.in (Rows'.lit 2 (w.drewN nq) 52 (wc (a, v)) _ rfl rfl (wc_one _))
      have HO1 : Hid (OwnW 52 ((w.drewN nq).alloc (.cells #[.int .i64 a, .int .u32 v] 52)) (q + 1) ao N cap L) := Hid.in (HO.out.step HB1.out)
      have HBB : Hid (q + 1 ≤ ((w.drewN nq).alloc (.cells #[.int .i64 a, .int .u32 v] 52)).heap.size) := Hid.in (Nat.le_trans (blk_lt HQ.out) HB1.out.size)
      have hc2 : (w.drewN nq).cell? ⟨q, 1, none⟩ = some (.slice ao N cap) := hc1
      go_wp2_with (first
        | (at_builtin; refine wpList_concatA rfl 49 52 2 16 _ (.tmp 27) (.tmp 31) rfl Tryd.underlying49 Tryd.infoRWrite rfl (by decide) (by decide) (q + 1) ao (some ⟨w.heap.size, 0, none⟩) N cap 1 1 (L.map wc) [wc (a, v)] rfl HO1.out rfl rfl HR.out HBB.out hN8 ?_; intro ao3 cap3 w3 HO3 HG3 HS3 _; have HG4 := Hid.in (grown_trans (grown_of_below HB1.out (oblk ao)) HG3.out); have h3 := (HG4.out.block q (blk_lt HQ.out) (fun e => absurd (HO.out.blk q e.symm).1 (by omega))).trans HQ.out; have k3 : w3.cell? ⟨q, 1, none⟩ = some (.slice ao N cap) := blk_cell h3 rfl; have f3 : w3.frozen? ⟨q, 1, none⟩ = false := blk_free h3; clear h3)
        | fail)
      go_ret
      refine ⟨_, rfl, buf_set HQ.out HG4.out (fun k hk => (HO.out.blk k hk).1) (by unfold OwnW; rw [List.map_append]; exact HO3.out) (by rw [List.length_append, HL.out]; rfl) HM.out hm8 (fun k hk => ?_)⟩
      rcases HS3.out k hk with h | h
      · exact .inl h
      · exact .inr (Nat.le_trans HB1.out.size h)

theorem rbpop_c (w : World) (q m : Nat) (S : List Nat) (L : List (Int × Int)) (hT : Buf 51 52 w q S m L) (c : Bool) (hc : decide (0 < L.length) = c) :
    Calls Tryd.prog 19 #[.pointer (some ⟨q, 0, none⟩)] w fun r w' => r = .returned (.bool c) ∧ Went 51 52 w w' q S S m (L.drop 1) := by
  subst hc
  have HT := Hid.in hT
  obtain ⟨⟨ao, cap, hq, hO, rfl⟩, hle, hm8⟩ := hT
  have hc1 : w.cell? ⟨q, 1, none⟩ = some (.slice ao L.length cap) := blk_cell hq rfl
  have f1 : w.frozen? ⟨q, 1, none⟩ = false := blk_free hq
  obtain ⟨N, hN⟩ : ∃ N, L.length = N := ⟨_, rfl⟩
  rw [hN] at hc1 hq hO hle
  have HL := Hid.in hN
  have HQ := Hid.in hq
  have HO := Hid.in hO
  by_cases h0 : N = 0
  · subst h0
    have he : L = [] := List.length_eq_zero_iff.1 hN
    subst he
    clear hq hO hN HO HQ HL hle
    go_enter Tryd.func19, Tryd.ntmps19
    go_wp2
    go_ret
    exact ⟨rfl, Went.same HT.out (Below.refl _ _)⟩
  · obtain ⟨p, rfl⟩ : ∃ p, N = p + 1 := ⟨N - 1, by omega⟩
    obtain ⟨b, o, x, y, rfl, _, _, _⟩ := hO.wat 0 (by omega)
    have hbq : q + 1 ≤ b := (hO.blk b rfl).1
    have hs1 := slice_from1 49 52 _ _ Tryd.underlying49 Tryd.infoRWrite b o (p + 1) cap (by omega)
    have hTl := hO.tail (by omega)
    have hblk : oblk (some (if cap = 1 then (⟨b, o, none⟩ : Addr) else ⟨b, o + 2, none⟩)) = some b := by split <;> rfl
    obtain ⟨A, hA⟩ : ∃ A, (if cap = 1 then (⟨b, o, none⟩ : Addr) else ⟨b, o + 2, none⟩) = A := ⟨_, rfl⟩
    rw [hA] at hs1 hTl hblk
    rw [Nat.add_sub_cancel] at hs1 hTl
    have HW : Hid (Went 51 52 w (w.setCell ⟨q, 1, none⟩ (.slice (some A) p (cap - 1))) q [q, b] [q, b] m (L.drop 1)) := Hid.in (by
      have := buf_set (tb := 51) HQ.out (grown_of_below (Below.refl _ _) _) (fun k hk => by cases hk; exact hbq) hTl hTl.wlen (by omega) hm8 (fun k hk => .inl (by rw [hblk] at hk; exact hk))
      rw [hblk] at this
      exact this)
    obtain ⟨n, hn⟩ : ∃ n, p + 1 = n := ⟨_, rfl⟩
    rw [hn] at hc1 hs1 HL
    have HN := Hid.in hn
    have i0 : ((n : Int) == 0) = false := by simp; omega
    clear hq hO hN h0 hn hA hTl HQ HO hblk
    go_enter Tryd.func19, Tryd.ntmps19
    go_wp2
    go_ret
    exact ⟨ret_bool (by rw [HL.out, decide_eq_true]; have := HN.out; omega), HW.out⟩

set_option maxHeartbeats 1600000 in
theorem rbfwd_c (w : World) (q m : Nat) (S : List Nat) (L : List (Int × Int)) (hT : Buf 51 52 w q S m L) (a v : Int) (b : Bool) (h : fwdL L a = (v, b)) :
    Calls Tryd.prog 17 #[.pointer (some ⟨q, 0, none⟩), .int .i64 a] w fun r w' => r = .returned (.tuple #[.int .u32 v, .bool b]) ∧ w' = w := by
  obtain ⟨⟨ao, cap, hq, hO, rfl⟩, hle, hm8⟩ := hT
  obtain ⟨N, hN⟩ : ∃ N, L.length = N := ⟨_, rfl⟩
  rw [hN] at hq hO hle
  have hc1 : w.cell? ⟨q, 1, none⟩ = some (.slice ao N cap) := blk_cell hq rfl
  have HO := Hid.in hO
  have HF : Hid (fwdL (L.take N) a = (v, b)) := Hid.in (by rw [List.take_of_length_le (by omega)]; exact h)
  have hN8 : N ≤ 8 := by omega
  clear hq hO h hN hle hm8
  go_enter Tryd.func17, Tryd.ntmps17
  go_wp2
  go_loopw [4, 5, 6] (fun x y c wr => ∃ j : Nat, x = .int .u32 0 ∧ y = .bool false ∧ j ≤ N ∧ c = .int .i64 ((j : Int) - 1) ∧ fwdL (L.take j) a = (v, b) ∧ wr = w) (fun _ _ c _ => (intOf c + 1).toNat)
  case atStart => exact ⟨N, rfl, rfl, Nat.le_refl _, by go_num, HF.out, rfl⟩
  case round =>
    obtain ⟨j, rfl, rfl, hj, rfl, hf, rfl⟩ := hrel
    have HJ := Hid.in hf
    clear hf HF
    cases j with
    | zero =>
      have h0 := HJ.out
      rw [List.take_zero, fwdL_nil] at h0
      cases h0
      go_wp2
      go_ret2
      exact ⟨rfl, rfl⟩
    | succ i =>
      obtain ⟨b1, o1, x, y, rfl, x1, x2, hxy⟩ := HO.out.wat i (by omega)
      have h0 := HJ.out
      rw [fwdL_take a hxy] at h0
      have e1 : (((i + 1 : Nat) : Int) - 1) = (i : Int) := by omega
      rw [e1]
      have i1 : (i : Int) < (N : Int) := by omega
      clear HJ hxy e1
      by_cases hxa : x = a
      · rw [if_pos hxa] at h0
        cases h0
        subst hxa
        go_wp2
        go_ret2
        exact ⟨rfl, rfl⟩
      · rw [if_neg hxa] at h0
        have HJ := Hid.in h0
        have hx0 : (x == a) = false := by simpa using hxa
        clear h0 hxa
        go_wp2
        go_roundw
        case rel => exact ⟨i, rfl, rfl, by omega, by go_num, HJ.out, trivial⟩
        case measure => simp [intOf]

theorem rbhead_c (w : World) (q m : Nat) (S : List Nat) (L : List (Int × Int)) (hT : Buf 51 52 w q S m L) (x y : Int) (b : Bool) (h : headL L = ((x, y), b)) :
    Calls Tryd.prog 18 #[.pointer (some ⟨q, 0, none⟩)] w fun r w' => r = .returned (.tuple #[.int .i64 x, .int .u32 y, .bool b]) ∧ Below w.heap.size w w' := by
  obtain ⟨⟨ao, cap, hq, hO, rfl⟩, hle, hm8⟩ := hT
  have hc1 : w.cell? ⟨q, 1, none⟩ = some (.slice ao L.length cap) := blk_cell hq rfl
  cases L with
  | nil =>
    cases h
    clear hq hO hle
    rw [List.length_nil] at hc1
    go_enter Tryd.func18, Tryd.ntmps18
    go_wp2
    go_ret3
    exact ⟨rfl, Below.refl _ _⟩
  | cons z R =>
    cases h
    obtain ⟨b1, o1, x', y', rfl, x1, x2, hxy⟩ := hO.wat 0 (by simp)
    cases hxy
    obtain ⟨N, hN⟩ : ∃ N, ((x, y) :: R).length = N := ⟨_, rfl⟩
    rw [hN] at hc1
    have hN0 : 0 < N := by rw [← hN]; simp
    have i0 : ((N : Int) == 0) = false := by simp; omega
    have i1 : (0 : Int) < (N : Int) := by omega
    rw [Nat.zero_mul, Nat.add_zero] at x1 x2
    clear hq hO hle hN
    go_enter Tryd.func18, Tryd.ntmps18
    go_wp2
    go_quiet (fail)
    go_wp2
    go_ret3
    exact ⟨rfl, drewN_below (Below.refl _ _) _⟩

end Go.Proofs.YteajmkfmoocanaaDoor

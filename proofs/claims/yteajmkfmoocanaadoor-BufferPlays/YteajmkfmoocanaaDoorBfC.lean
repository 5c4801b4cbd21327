/- DERIVED of the program: Push, Forward, Head, Pop and List of the project's store buffer by their contracts. Own work. -/
import Derived.Test.YteajmkfmoocanaaDoorBfB
import Derived.Laws.ResultCell
namespace Go.Proofs.YteajmkfmoocanaaDoor
open Go.RowKit Go.Extern.Stop Go.Stop Go.Extern

/-- The field of the row written: the buffer behind it. -/
theorem buf_set {tb tw : TypeId} {w w1 : World} {q m n cap n' cap' : Nat} {ao ao' : Option Addr} {L' : List (Int × Int)} (hq : w.heap[q]? = some (.cells #[.int .i64 (m : Int), .slice ao n cap] tb (0, 0))) (hg : w.grownBy w1 (oblk ao)) (hb : ∀ k, oblk ao = some k → q + 1 ≤ k)
    (hO : OwnW tw w1 (q + 1) ao' n' cap' L') (hn : L'.length = n') (hle : n' ≤ m) (hm8 : m ≤ 8) (hs : ∀ k, oblk ao' = some k → oblk ao = some k ∨ w.heap.size ≤ k) :
    Went tb tw w (w1.setCell ⟨q, 1, none⟩ (.slice ao' n' cap')) q (q :: (oblk ao).toList) (q :: (oblk ao').toList) m L' := by
  have h1 : w1.heap[q]? = some (.cells #[.int .i64 (m : Int), .slice ao n cap] tb (0, 0)) := (hg.block q (blk_lt hq) (fun e => absurd (hb q e.symm) (by omega))).trans hq
  subst hn
  refine ⟨⟨⟨ao', cap', (blk_set _ h1).trans (by simp), hO.keep (fun k hk => Below.heap_setCell _ _ _ k (fun e => ?_)), rfl⟩, hle, hm8⟩, ?_, fun k hk => ?_⟩
  · have := (hO.blk k hk).1
    simp only [] at e
    omega
  · exact (Fr.of_grown hg (fun k hk => List.mem_cons_of_mem _ (Option.mem_toList.2 hk))).setCell _ List.mem_cons_self
  · rcases List.mem_cons.1 hk with rfl | hk
    · exact .inl List.mem_cons_self
    · rcases hs k (Option.mem_toList.1 hk) with h | h
      · exact .inl (List.mem_cons_of_mem _ (Option.mem_toList.2 h))
      · exact .inr h
theorem grown_trans {w w1 w2 : World} {row : Option Nat} (h1 : w.grownBy w1 row) (h2 : w1.grownBy w2 row) : w.grownBy w2 row :=
  ⟨h2.os.trans h1.os, h2.tape.trans h1.tape, h2.output.trans h1.output, Nat.le_trans h1.size h2.size, fun k hk hne => (h2.block k (Nat.lt_of_lt_of_le hk h1.size) hne).trans (h1.block k hk hne)⟩

theorem bpop_c (w : World) (q m : Nat) (S : List Nat) (L : List (Int × Int)) (hT : Buf 64 32 w q S m L) (c : Bool) (hc : decide (0 < L.length) = c) :
    Calls Tryd.prog 12 #[.pointer (some ⟨q, 0, none⟩)] w fun r w' => r = .returned (.bool c) ∧ Went 64 32 w w' q S S m (L.drop 1) := by
  subst hc
  have HT := Hid.in hT
  obtain ⟨⟨ao, cap, hq, hO, rfl⟩, hle, hm8⟩ := hT
  have hc1 : w.cell? ⟨q, 1, none⟩ = some (.slice ao L.length cap) := blk_cell hq rfl
  obtain ⟨N, hN⟩ : ∃ N, L.length = N := ⟨_, rfl⟩
  rw [hN] at hc1 hq hO hle
  have HL := Hid.in hN
  have HQ := Hid.in hq
  have HO := Hid.in hO
  by_cases h0 : N = 0
  · subst h0
    have he : L = [] := List.length_eq_zero_iff.1 hN
    subst he
    clear hq hO hN HO HQ HL hle
    go_enter Tryd.func12, Tryd.ntmps12
    go_wp2
    go_ret
    exact ⟨rfl, Went.same HT.out (Below.refl _ _)⟩
  · obtain ⟨p, rfl⟩ : ∃ p, N = p + 1 := ⟨N - 1, by omega⟩
    obtain ⟨b, o, x, y, rfl, _, _, _⟩ := hO.wat 0 (by omega)
    have hbq : q + 1 ≤ b := (hO.blk b rfl).1
    obtain ⟨n, hn⟩ : ∃ n, p + 1 = n := ⟨_, rfl⟩
    rw [hn] at hc1 HQ HO HL hle
    have HN := Hid.in hn
    have i0 : ((n : Int) == 0) = false := by simp; omega
    have hn8 : n ≤ 1000 := by omega
    clear hq hO hN h0 hn
    go_enter Tryd.func12, Tryd.ntmps12
    go_wp2_with fail
    refine (delete_any w (q + 1) b o n p cap L HO.out HN.out.symm hn8 (blk_lt HQ.out)).mono ?_
    rintro r w1 ⟨rfl, hO1, hg⟩
    have h1 : w1.heap[q]? = _ := (hg.block q (blk_lt HQ.out) (fun e => by cases e; omega)).trans HQ.out
    have k1 : w1.cell? ⟨q, 1, none⟩ = some (.slice (some ⟨b, o, none⟩) n cap) := blk_cell h1 rfl
    have f1 : w1.frozen? ⟨q, 1, none⟩ = false := blk_free h1
    have HW : Hid (Went 64 32 w (w1.setCell ⟨q, 1, none⟩ (.slice (some ⟨b, o, none⟩) p cap)) q [q, b] [q, b] m (L.drop 1)) := Hid.in (buf_set HQ.out hg (fun k hk => by cases hk; exact hbq) hO1 hO1.wlen (by have := HN.out; omega) hm8 (fun k hk => .inl hk))
    clear hO1 hg h1
    go_wp2
    go_ret
    exact ⟨ret_bool (by rw [HL.out, decide_eq_true]; have := HN.out; omega), HW.out⟩

theorem bpush_arg (w : World) (sa : Nat → Addr) (hE : Env10 w sa) (q : Nat) (a v : Int) (h : wB a 0 127 = false) :
    Calls Tryd.prog 9 #[.pointer (some ⟨q, 0, none⟩), .int .i64 a, .int .u32 v] w fun r w' => r = .returned (perr sa 1 opBPush a) ∧ w' = w := by
  have hg : w.cell? ⟨0, 0, none⟩ = some (snt (sa 1)) := hE.g 1 (by omega) (by omega)
  have HC := Hid.in h
  clear h hE
  go_enter Tryd.func9, Tryd.ntmps9
  go_wp2_with fail
  refine (bwithin_c a 0 127 false HC.out w).mono ?_
  rintro r w' ⟨rfl, rfl⟩
  go_wp2_with fail
  refine (wrap_some _ a _ _ w').mono ?_
  rintro r w'' ⟨rfl, rfl⟩
  go_wp2
  go_ret
  exact ⟨rfl, rfl⟩
set_option maxRecDepth 20000 in
theorem bpush_c (w : World) (sa : Nat → Addr) (hE : Env10 w sa) (q m : Nat) (S : List Nat) (L : List (Int × Int)) (hT : Buf 64 32 w q S m L) (a v : Int) (c : Nat) (L' : List (Int × Int)) (h : pushL m L a v = (c, L')) :
    Calls Tryd.prog 9 #[.pointer (some ⟨q, 0, none⟩), .int .i64 a, .int .u32 v] w fun r w' => ∃ S', r = .returned (perr sa c opBPush a) ∧ Went 64 32 w w' q S S' m L' := by
  cases ha : wB a 0 127 with
  | false =>
    rw [pushL_arg v ha] at h
    cases h
    refine (bpush_arg w sa hE q a v ha).mono ?_
    rintro r w' ⟨rfl, rfl⟩
    exact ⟨S, rfl, Went.same hT (Below.refl _ _)⟩
  | true =>
    have HT := Hid.in hT
    have HA := Hid.in ha
    obtain ⟨⟨ao, cap, hq, hO, rfl⟩, hle, hm8⟩ := hT
    obtain ⟨N, hN⟩ : ∃ N, L.length = N := ⟨_, rfl⟩
    have hc0 : w.cell? ⟨q, 0, none⟩ = some (.int .i64 (m : Int)) := blk_cell hq rfl
    rw [hN] at hq hO hle
    have hc1 : w.cell? ⟨q, 1, none⟩ = some (.slice ao N cap) := blk_cell hq rfl
    have HL := Hid.in hN
    have HQ := Hid.in hq
    have HO := Hid.in hO
    by_cases hf : m ≤ N
    · rw [pushL_full v ha (by omega)] at h
      cases h
      have hg : w.cell? ⟨1, 0, none⟩ = some (snt (sa 6)) := hE.g 6 (by omega) (by omega)
      have i1 : (m : Int) ≤ (N : Int) := by omega
      clear hE ha hq hO HO HQ hN HL hle hf
      go_enter Tryd.func9, Tryd.ntmps9
      go_wp2_with fail
      refine (bwithin_c a 0 127 true HA.out w).mono ?_
      rintro r w' ⟨rfl, rfl⟩
      go_wp2
      go_quiet (fail)
      go_wp2_with fail
      refine (wrap_some _ a _ _ _).mono ?_
      rintro r w'' ⟨rfl, rfl⟩
      go_wp2
      go_ret
      exact ⟨_, rfl, Went.same HT.out (drewN_below (Below.refl _ _) _)⟩
    · rw [pushL_ok v ha (by omega)] at h
      cases h
      have i1 : ¬ (m : Int) ≤ (N : Int) := by omega
      have hN8 : N + 1 ≤ 1000000 := by omega
      have HM : Hid (N + 1 ≤ m) := Hid.in (by omega)
      clear hE ha hq hO hN hle hf
      go_enter Tryd.func9, Tryd.ntmps9
      go_wp2_with fail
      refine (bwithin_c a 0 127 true HA.out w).mono ?_
      rintro r w' ⟨rfl, rfl⟩
      go_wp2
      go_quiet (fail)
      have hdm : decide (m ≤ N) = false := decide_eq_false (by have := HM.out; omega)
      have HB0 : Hid (Below w'.heap.size w' (w'.drewN nq)) := Hid.in (drewN_below (Below.refl _ _) _)
      have HB1 : Hid (Below w'.heap.size w' ((w'.drewN nq).alloc (.cells #[.int .i64 a, .int .u32 v] 32))) := Hid.in (HB0.out.alloc HB0.out.size _)
      have HR : Hid (Rows' 2 ((w'.drewN nq).alloc (.cells #[.int .i64 a, .int .u32 v] 32)) (some ⟨w'.heap.size, 0, none⟩) 1 [wc (a, v)]) := Hid.in (Rows'.lit 2 (w'.drewN nq) 32 (wc (a, v)) _ rfl rfl (wc_one _))
      have HO1 : Hid (OwnW 32 ((w'.drewN nq).alloc (.cells #[.int .i64 a, .int .u32 v] 32)) (q + 1) ao N cap L) := Hid.in (HO.out.step HB1.out)
      have HBB : Hid (q + 1 ≤ ((w'.drewN nq).alloc (.cells #[.int .i64 a, .int .u32 v] 32)).heap.size) := Hid.in (Nat.le_trans (blk_lt HQ.out) HB1.out.size)
      have hc2 : (w'.drewN nq).cell? ⟨q, 1, none⟩ = some (.slice ao N cap) := hc1
      go_wp2_with (first
        | (at_builtin; refine wpList_concatA rfl 47 32 2 16 _ (.tmp 30) (.tmp 34) rfl Tryd.underlying47 Tryd.infoWrite rfl (by decide) (by decide) (q + 1) ao (some ⟨w'.heap.size, 0, none⟩) N cap 1 1 (L.map wc) [wc (a, v)] rfl HO1.out rfl rfl HR.out HBB.out hN8 ?_; intro ao3 cap3 w3 HO3 HG3 HS3 _; have HG4 := Hid.in (grown_trans (grown_of_below HB1.out (oblk ao)) HG3.out); have h3 := (HG4.out.block q (blk_lt HQ.out) (fun e => absurd (HO.out.blk q e.symm).1 (by omega))).trans HQ.out; have k3 : w3.cell? ⟨q, 1, none⟩ = some (.slice ao N cap) := blk_cell h3 rfl; have f3 : w3.frozen? ⟨q, 1, none⟩ = false := blk_free h3; clear h3)
        | fail)
      go_ret
      refine ⟨_, rfl, buf_set HQ.out HG4.out (fun k hk => (HO.out.blk k hk).1) (by unfold OwnW; rw [List.map_append]; exact HO3.out) (by rw [List.length_append, HL.out]; rfl) HM.out hm8 (fun k hk => ?_)⟩
      rcases HS3.out k hk with h | h
      · exact .inl h
      · exact .inr (Nat.le_trans HB1.out.size h)

set_option maxHeartbeats 1600000 in
theorem bfwd_c (w : World) (q m : Nat) (S : List Nat) (L : List (Int × Int)) (hT : Buf 64 32 w q S m L) (a v : Int) (b : Bool) (h : fwdL L a = (v, b)) :
    Calls Tryd.prog 10 #[.pointer (some ⟨q, 0, none⟩), .int .i64 a] w fun r w' => r = .returned (.tuple #[.int .u32 v, .bool b]) ∧ w' = w := by
  obtain ⟨⟨ao, cap, hq, hO, rfl⟩, hle, hm8⟩ := hT
  obtain ⟨N, hN⟩ : ∃ N, L.length = N := ⟨_, rfl⟩
  rw [hN] at hq hO hle
  have hc1 : w.cell? ⟨q, 1, none⟩ = some (.slice ao N cap) := blk_cell hq rfl
  have HO := Hid.in hO
  have HF : Hid (fwdL (L.take N) a = (v, b)) := Hid.in (by rw [List.take_of_length_le (by omega)]; exact h)
  have hN8 : N ≤ 8 := by omega
  clear hq hO h hN hle hm8
  go_enter Tryd.func10, Tryd.ntmps10
  go_wp2
  go_loopw [4, 5, 6] (fun x y c wr => ∃ j : Nat, x = .int .u32 0 ∧ y = .bool false ∧ j ≤ N ∧ c = .int .i64 ((j : Int) - 1) ∧ fwdL (L.take j) a = (v, b) ∧ wr = w) (fun _ _ c _ => (intOf c + 1).toNat)
  case atStart => exact ⟨N, rfl, rfl, Nat.le_refl _, by go_num, HF.out, rfl⟩
  case round =>
    obtain ⟨j, rfl, rfl, hj, rfl, hf, rfl⟩ := hrel
    have HJ := Hid.in hf
    clear hf HF
    cases j with
    | zero =>
      have h0 := HJ.out
      rw [List.take_zero, fwdL_nil] at h0
      cases h0
      go_wp2
      go_ret2
      exact ⟨rfl, rfl⟩
    | succ i =>
      obtain ⟨b1, o1, x, y, rfl, x1, x2, hxy⟩ := HO.out.wat i (by omega)
      have h0 := HJ.out
      rw [fwdL_take a hxy] at h0
      have e1 : (((i + 1 : Nat) : Int) - 1) = (i : Int) := by omega
      rw [e1]
      have i1 : (i : Int) < (N : Int) := by omega
      clear HJ hxy e1
      by_cases hxa : x = a
      · rw [if_pos hxa] at h0
        cases h0
        subst hxa
        go_wp2
        go_ret2
        exact ⟨rfl, rfl⟩
      · rw [if_neg hxa] at h0
        have HJ := Hid.in h0
        have hx0 : (x == a) = false := by simpa using hxa
        clear h0 hxa
        go_wp2
        go_roundw
        case rel => exact ⟨i, rfl, rfl, by omega, by go_num, HJ.out, trivial⟩
        case measure => simp [intOf]

theorem bhead_c (w : World) (q m : Nat) (S : List Nat) (L : List (Int × Int)) (hT : Buf 64 32 w q S m L) (x y : Int) (b : Bool) (h : headL L = ((x, y), b)) :
    Calls Tryd.prog 11 #[.pointer (some ⟨q, 0, none⟩)] w fun r w' => r = .returned (.tuple #[.agg #[.int .i64 x, .int .u32 y], .bool b]) ∧ Below w.heap.size w w' := by
  obtain ⟨⟨ao, cap, hq, hO, rfl⟩, hle, hm8⟩ := hT
  have hc1 : w.cell? ⟨q, 1, none⟩ = some (.slice ao L.length cap) := blk_cell hq rfl
  have hqs := blk_lt hq
  cases L with
  | nil =>
    cases h
    clear hq hO hle
    rw [List.length_nil] at hc1
    go_enter Tryd.func11, Tryd.ntmps11
    go_wp2
    (try simp only [Exit.inBlock, Exit.then])
    refine bodyPost_ret (v := .tuple #[.agg #[.int .i64 0, .int .u32 0], .bool false]) ?_ rfl ⟨rfl, below_alloc _ _⟩
    rw [results_cell_tmp rfl]
    go_simp
  | cons z R =>
    cases h
    obtain ⟨b1, o1, x', y', rfl, x1, x2, hxy⟩ := hO.wat 0 (by simp)
    cases hxy
    obtain ⟨N, hN⟩ : ∃ N, ((x, y) :: R).length = N := ⟨_, rfl⟩
    rw [hN] at hc1
    have hN0 : 0 < N := by rw [← hN]; simp
    have i0 : ((N : Int) == 0) = false := by simp; omega
    have i1 : (0 : Int) < (N : Int) := by omega
    have hb1 := lt_cell x1
    rw [Nat.zero_mul, Nat.add_zero] at x1 x2
    clear hq hO hle hN
    go_enter Tryd.func11, Tryd.ntmps11
    go_wp2
    (try simp only [Exit.inBlock, Exit.then])
    refine bodyPost_ret (v := .tuple #[.agg #[.int .i64 x, .int .u32 y], .bool true]) ?_ rfl ⟨rfl, below_alloc _ _⟩
    rw [results_cell_tmp rfl]
    go_simp

theorem blist_c (w : World) (q m : Nat) (S : List Nat) (L : List (Int × Int)) (hT : Buf 64 32 w q S m L) (n : Nat) (hn : L.length = n) :
    Calls Tryd.prog 20 #[.pointer (some ⟨q, 0, none⟩)] w fun r w' => ∃ ao cap, r = .returned (.slice ao n cap) ∧ OwnW 32 w' w.heap.size ao n cap L ∧ Below w.heap.size w w' := by
  obtain ⟨⟨ao, cap, hq, hO, rfl⟩, hle, hm8⟩ := hT
  rw [hn] at hq hO hle
  have hc1 : w.cell? ⟨q, 1, none⟩ = some (.slice ao n cap) := blk_cell hq rfl
  have HR := Hid.in (OwnA.rows hO (wcs_one L))
  have HL : Hid (n = (L.map wc).length) := Hid.in (by rw [List.length_map, hn])
  have hn8 : 0 + n ≤ 1000000 := by omega
  clear hq hO hle hn
  go_enter Tryd.func20, Tryd.ntmps20
  go_wp2_with (first
    | (at_builtin; refine wpList_concatA rfl 47 32 2 16 _ (.const (.slice none 0 0)) (.tmp 6) rfl Tryd.underlying47 Tryd.infoWrite rfl (by decide) (by decide) w.heap.size none ao 0 0 n cap [] (L.map wc) rfl (OwnA.nil _ _ _ _) rfl HL.out HR.out (Nat.le_refl _) hn8 ?_; intro ao3 cap3 w3 HO3 HG3 _ _)
    | fail)
  go_ret
  refine ⟨ao3, cap3, rfl, ?_, (Below.refl _ _).grown HG3.out (Nat.le_refl _) (fun k hk => by cases hk)⟩
  have := HO3.out
  rwa [Nat.zero_add, List.nil_append] at this

end Go.Proofs.YteajmkfmoocanaaDoor

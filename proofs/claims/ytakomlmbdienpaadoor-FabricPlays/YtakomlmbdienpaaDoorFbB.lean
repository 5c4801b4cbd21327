/- DERIVED of the program: the project's fabric: places, New, Len by their contracts. Own work. -/
import Derived.Test.YtakomlmbdienpaaDoorFbA
import Derived.Test.YtakomlmbdienpaaDoorGenY
import Derived.Test.YtakomlmbdienpaaDoorGenR
namespace Go.Proofs.YtakomlmbdienpaaDoor
open Go.RowKit Go.Extern.Stop Go.Stop Go.Extern

abbrev opFNew : ByteArray := ⟨#[102, 97, 98, 114, 105, 99, 46, 78, 101, 119]⟩
abbrev opFSend : ByteArray := ⟨#[102, 97, 98, 114, 105, 99, 46, 83, 101, 110, 100]⟩

theorem wrapI {z : Int} (h0 : -9223372036854775808 ≤ z) (h1 : z ≤ 9223372036854775807) : IntKind.i64.wrap z = z := by rw [IntKind.wrap_i64]; omega

theorem fbwithin_c (n a b : Int) (c : Bool) (h : wB n a b = c) (w : World) : Calls Tryd.prog 29 #[.int .i64 n, .int .i64 a, .int .i64 b] w fun r w' => r = .returned (.bool c) ∧ w' = w := by
  subst h
  by_cases h1 : a ≤ n
  · by_cases h2 : n ≤ b
    · have HE := Hid.in (wB_yes ⟨h1, h2⟩)
      go_enter Tryd.func29, Tryd.ntmps29
      go_wp2
      go_ret
      exact ⟨ret_bool HE.out.symm, rfl⟩
    · have HE := Hid.in (wB_no (n := n) (a := a) (b := b) (fun h => h2 h.2))
      go_enter Tryd.func29, Tryd.ntmps29
      go_wp2
      go_ret
      exact ⟨ret_bool HE.out.symm, rfl⟩
  · have HE := Hid.in (wB_no (n := n) (a := a) (b := b) (fun h => h1 h.1))
    go_enter Tryd.func29, Tryd.ntmps29
    go_wp2
    go_ret
    exact ⟨ret_bool HE.out.symm, rfl⟩

theorem placeOf_in (w : World) (q cs : Nat) (hc : w.cell? ⟨q, 0, none⟩ = some (.int .i64 (cs : Int))) (h1 : 1 ≤ cs) (h64 : cs ≤ 64) (c : Nat) (hcs : c < cs) (z : Nat) (hz : z ≤ 1) :
    Calls Tryd.prog 43 #[.pointer (some ⟨q, 0, none⟩), .int .i64 (c : Int), .int .i64 (z : Int)] w fun r w' => r = .returned (.int .i64 ((2 + 2 * c + z : Nat) : Int)) ∧ w' = w := by
  have hw1 : IntKind.i64.wrap ((cs : Int) - 1) = ((cs - 1 : Nat) : Int) := by rw [show (cs : Int) - 1 = ((cs - 1 : Nat) : Int) by omega]; exact wrapI (by omega) (by omega)
  have hw2 : IntKind.i64.wrap (2 * (c : Int)) = ((2 * c : Nat) : Int) := by rw [show 2 * (c : Int) = ((2 * c : Nat) : Int) by omega]; exact wrapI (by omega) (by omega)
  have hw3 : IntKind.i64.wrap (2 + ((2 * c : Nat) : Int)) = ((2 + 2 * c : Nat) : Int) := by rw [show 2 + ((2 * c : Nat) : Int) = ((2 + 2 * c : Nat) : Int) by omega]; exact wrapI (by omega) (by omega)
  have hw4 : IntKind.i64.wrap (((2 + 2 * c : Nat) : Int) + (z : Int)) = ((2 + 2 * c + z : Nat) : Int) := by rw [show ((2 + 2 * c : Nat) : Int) + (z : Int) = ((2 + 2 * c + z : Nat) : Int) by omega]; exact wrapI (by omega) (by omega)
  have HB : Hid (wB (c : Int) 0 ((cs - 1 : Nat) : Int) = true) := Hid.in (wB_yes ⟨by omega, by omega⟩)
  generalize ((2 + 2 * c + z : Nat) : Int) = r4 at *
  generalize ((2 + 2 * c : Nat) : Int) = r3 at *
  generalize ((2 * c : Nat) : Int) = r2 at *
  generalize ((cs - 1 : Nat) : Int) = r1 at *
  go_enter Tryd.func43, Tryd.ntmps43
  go_wp2_with fail
  refine (fbwithin_c _ 0 _ true HB.out w).mono ?_
  rintro r w' ⟨rfl, rfl⟩
  go_wp2
  go_ret
  exact ⟨rfl, rfl⟩
theorem placeOf_out (w : World) (q cs : Nat) (hc : w.cell? ⟨q, 0, none⟩ = some (.int .i64 (cs : Int))) (h1 : 1 ≤ cs) (h64 : cs ≤ 64) (c : Int) (hcs : ¬ (0 ≤ c ∧ c < cs)) (z : Int) :
    Calls Tryd.prog 43 #[.pointer (some ⟨q, 0, none⟩), .int .i64 c, .int .i64 z] w fun r w' => r = .returned (.int .i64 (-1)) ∧ w' = w := by
  have hw1 : IntKind.i64.wrap ((cs : Int) - 1) = ((cs - 1 : Nat) : Int) := by rw [show (cs : Int) - 1 = ((cs - 1 : Nat) : Int) by omega]; exact wrapI (by omega) (by omega)
  have HB : Hid (wB c 0 ((cs - 1 : Nat) : Int) = false) := Hid.in (wB_no (fun h => hcs ⟨h.1, by omega⟩))
  generalize ((cs - 1 : Nat) : Int) = r1 at *
  clear hcs
  go_enter Tryd.func43, Tryd.ntmps43
  go_wp2_with fail
  refine (fbwithin_c _ 0 _ false HB.out w).mono ?_
  rintro r w' ⟨rfl, rfl⟩
  go_wp2
  go_ret
  exact ⟨rfl, rfl⟩

theorem place_c (w : World) (q cs : Nat) (hc : w.cell? ⟨q, 0, none⟩ = some (.int .i64 (cs : Int))) (h1 : 1 ≤ cs) (h64 : cs ≤ 64) (p c : Int) (z : Int) (hz : plI cs p c = z) :
    Calls Tryd.prog 32 #[.pointer (some ⟨q, 0, none⟩), .int .i64 p, .int .i64 c] w fun r w' => r = .returned (.int .i64 z) ∧ w' = w := by
  subst hz
  by_cases p0 : p = 0
  · subst p0
    rw [plI_some (plN_0 cs c)]
    clear hc
    go_enter Tryd.func32, Tryd.ntmps32
    go_wp2
    go_ret
    exact ⟨rfl, rfl⟩
  by_cases p2 : p = 2
  · subst p2
    rw [plI_some (plN_2 cs c)]
    clear hc p0
    go_enter Tryd.func32, Tryd.ntmps32
    go_wp2
    go_ret
    exact ⟨rfl, rfl⟩
  by_cases p1 : p = 1
  · subst p1
    by_cases hcs : 0 ≤ c ∧ c < cs
    · rw [plI_some (plN_1 hcs)]
      obtain ⟨n, rfl⟩ : ∃ n : Nat, c = (n : Int) := ⟨c.toNat, by omega⟩
      have HC := Hid.in (placeOf_in w q cs hc h1 h64 n (by omega) 0 (by omega))
      rw [Int.toNat_natCast]
      clear hc p0 p2 hcs
      go_enter Tryd.func32, Tryd.ntmps32
      go_wp2_with fail
      refine HC.out.mono ?_
      rintro r w' ⟨rfl, rfl⟩
      go_wp2
      go_ret
      exact ⟨rfl, rfl⟩
    · rw [plI_none (plN_1no hcs)]
      have HC := Hid.in (placeOf_out w q cs hc h1 h64 c hcs 0)
      clear hc p0 p2 hcs
      go_enter Tryd.func32, Tryd.ntmps32
      go_wp2_with fail
      refine HC.out.mono ?_
      rintro r w' ⟨rfl, rfl⟩
      go_wp2
      go_ret
      exact ⟨rfl, rfl⟩
  by_cases p3 : p = 3
  · subst p3
    by_cases hcs : 0 ≤ c ∧ c < cs
    · rw [plI_some (plN_3 hcs)]
      obtain ⟨n, rfl⟩ : ∃ n : Nat, c = (n : Int) := ⟨c.toNat, by omega⟩
      have HC := Hid.in (placeOf_in w q cs hc h1 h64 n (by omega) 1 (by omega))
      rw [Int.toNat_natCast, show 3 + 2 * n = 2 + 2 * n + 1 by omega]
      clear hc p0 p1 p2 hcs
      go_enter Tryd.func32, Tryd.ntmps32
      go_wp2_with fail
      refine HC.out.mono ?_
      rintro r w' ⟨rfl, rfl⟩
      go_wp2
      go_ret
      exact ⟨rfl, rfl⟩
    · rw [plI_none (plN_3no hcs)]
      have HC := Hid.in (placeOf_out w q cs hc h1 h64 c hcs 1)
      clear hc p0 p1 p2 hcs
      go_enter Tryd.func32, Tryd.ntmps32
      go_wp2_with fail
      refine HC.out.mono ?_
      rintro r w' ⟨rfl, rfl⟩
      go_wp2
      go_ret
      exact ⟨rfl, rfl⟩
  rw [plI_none (plN_no p0 p1 p2 p3)]
  clear hc
  go_enter Tryd.func32, Tryd.ntmps32
  go_wp2
  go_ret
  exact ⟨rfl, rfl⟩

set_option maxRecDepth 20000 in
theorem through_c (w : World) (q cs : Nat) (hc : w.cell? ⟨q, 0, none⟩ = some (.int .i64 (cs : Int))) (h1 : 1 ≤ cs) (h64 : cs ≤ 64) (m : M13) (hm : okM cs m = true) :
    Calls Tryd.prog 31 #[.pointer (some ⟨q, 0, none⟩), .agg (mv m)] w fun r w' => r = .returned (.int .i64 (thM cs m : Int)) ∧ Below w.heap.size w w' := by
  have hp := plI_some (okM_th hm).1
  obtain ⟨k, c, l, t, o, e, w_, v, d0, d1, d2, d3, h⟩ := m
  simp only [mv_eq]
  simp only [] at hp
  generalize hW : (w.alloc (.cells #[.int .i64 k, .int .i64 c, .int .i64 l, .int .i64 t, .int .i64 o, .int .i64 e, .int .i64 w_, .int .u32 v, .int .u32 d0, .int .u32 d1, .int .u32 d2, .int .u32 d3, .bool h] 32)) = W
  have hb : Below w.heap.size w W := by rw [← hW]; exact below_alloc _ _
  have x0 : W.cell? ⟨w.heap.size, 0, none⟩ = some (.int .i64 k) := by rw [← hW]; exact blk_cell (heap_alloc_new _ _) rfl
  have x1 : W.cell? ⟨w.heap.size, 1, none⟩ = some (.int .i64 c) := by rw [← hW]; exact blk_cell (heap_alloc_new _ _) rfl
  have hc' : W.cell? ⟨q, 0, none⟩ = some (.int .i64 (cs : Int)) := by
    have hq := lt_cell hc
    simp only [World.cell?] at hc ⊢
    rw [hb.block q hq]
    exact hc
  have nc : ∀ n : Kin (fun X => Below W.heap.size W X), n.of.cell? ⟨q, 0, none⟩ = some (.int .i64 (cs : Int)) := fun n => (n.in.cell (p := ⟨q, 0, none⟩) (lt_cell hc')).trans hc'
  have n0 : ∀ n : Kin (fun X => Below W.heap.size W X), n.of.cell? ⟨w.heap.size, 0, none⟩ = some (.int .i64 k) := fun n => (n.in.cell (p := ⟨w.heap.size, 0, none⟩) (lt_cell x0)).trans x0
  have n1 : ∀ n : Kin (fun X => Below W.heap.size W X), n.of.cell? ⟨w.heap.size, 1, none⟩ = some (.int .i64 c) := fun n => (n.in.cell (p := ⟨w.heap.size, 1, none⟩) (lt_cell x1)).trans x1
  have HPl : Hid (∀ n : Kin (fun X => Below W.heap.size W X), Calls Tryd.prog 32 #[.pointer (some ⟨q, 0, none⟩), .int .i64 (poolS k), .int .i64 c] n.of fun r w' => r = .returned (.int .i64 (thM cs (k, c, l, t, o, e, w_, v, d0, d1, d2, d3, h) : Int)) ∧ w' = n.of) := Hid.in (fun n => place_c _ q cs (nc n) h1 h64 _ _ _ hp)
  have HB := Hid.in hb
  clear hc hc' hm hp hb x0 x1 nc h1 h64
  go_enter Tryd.func31, Tryd.ntmps31
  go_upto_region 1 with fail
  clear hW
  refine wp_region_kin (C := fun X => Below W.heap.size W X) (by kernel_rfl) (by kernel_rfl) (Below.refl _ _).drew (fun hne' => ?_)
  repeat (go_big_quiet_step (first | (go_at_call 27; exact Kin.same _ (sPool_any _ _)) | (go_at_call 32; exact Kin.same _ (HPl.out _))))
  refine wpQuiet_nil ?_
  rintro w6 ⟨n, rfl⟩
  have HT := Hid.in n.in
  go_wp2
  go_ret
  exact ⟨rfl, bstep HB.out (Nat.le_refl _) HT.out⟩

theorem Tryd.infoMsgs : (Tryd.prog.info? 44).map (fun i => (i.zero, i.size, i.bytes)) = some (some (.slice none 0 0), 1, 24) := by kernel_rfl

/-- A row of empty pools. -/
def nilC (pb n : Nat) : List Sl := (List.range n).map fun i => ⟨pb, i, none, 0, []⟩
theorem nilC_get {pb n i : Nat} {c : Sl} (h : (nilC pb n)[i]? = some c) : c = ⟨pb, i, none, 0, []⟩ ∧ i < n := by
  unfold nilC at h
  rw [List.getElem?_map] at h
  obtain ⟨j, hj, rfl⟩ := Option.map_eq_some_iff.1 h
  obtain ⟨hl, he⟩ := List.getElem?_eq_some_iff.1 hj
  rw [List.getElem_range] at he
  subst he
  exact ⟨rfl, by simpa using hl⟩
theorem nilC_mem {pb n : Nat} {c : Sl} (h : c ∈ nilC pb n) : ∃ i, c = ⟨pb, i, none, 0, []⟩ ∧ i < n := by
  obtain ⟨i, hi⟩ := List.mem_iff_getElem?.1 h
  exact ⟨i, nilC_get hi⟩
theorem nilC_L (pb n : Nat) : (nilC pb n).map Sl.L = List.replicate n [] := by
  unfold nilC
  rw [List.map_map]
  apply List.ext_getElem?
  intro i
  simp only [List.getElem?_map, List.getElem?_replicate, Function.comp_def]
  by_cases h : i < n
  · simp [h]
  · simp [h]
theorem Slots.nils {w : World} {pb n cap : Nat} (h : OwnA 44 1 w 0 (some ⟨pb, 0, none⟩) n cap (List.replicate n [.slice none 0 0])) : Slots w (nilC pb n) := by
  obtain ⟨g, o, cur, e, _, hh, hsz, hr⟩ := h.at_ _ rfl
  cases e
  refine ⟨fun c hc => ?_, fun c hc => ?_, fun i j c d hij hc hd => ?_, fun c hc d hd k hk => ?_⟩
  · obtain ⟨i, rfl, hi⟩ := nilC_mem hc
    refine ⟨cur, hh, ?_⟩
    have := hr i (.slice none 0 0) (by
      have h1 : i / 1 < (List.replicate n [Value.slice none 0 0]).length := by simpa using hi
      have := flat_get (m := 1) (rs := List.replicate n [Value.slice none 0 0]) h.each i 0 (by simpa using hi) (by omega)
      rw [Nat.mul_one, Nat.add_zero] at this
      rw [this]
      simp)
    rwa [Nat.zero_add] at this
  · obtain ⟨i, rfl, hi⟩ := nilC_mem hc
    exact OwnA.nil _ _ _ _
  · obtain ⟨rfl, _⟩ := nilC_get hc
    obtain ⟨rfl, _⟩ := nilC_get hd
    exact ⟨fun h => hij h.2, fun k hk => by cases hk⟩
  · obtain ⟨i, rfl, hi⟩ := nilC_mem hc
    cases hk
theorem bks_nilC {pb n k : Nat} (h : k ∈ bksS (nilC pb n)) : k = pb := by
  obtain ⟨c, hc, hk⟩ := mem_bksS.1 h
  obtain ⟨i, rfl, _⟩ := nilC_mem hc
  rcases hk with hk | hk
  · exact hk
  · cases hk

set_option maxRecDepth 20000 in
theorem fbnew_ok (w : World) (cs rm : Nat) (h1 : 1 ≤ cs) (h2 : cs ≤ 64) (h3 : 1 ≤ rm) (h4 : rm ≤ 64) :
    Calls Tryd.prog 9 #[.int .i64 (cs : Int), .int .i64 (rm : Int)] w fun r w' => ∃ q S, r = .returned (.tuple #[.pointer (some ⟨q, 0, none⟩), .nilIface]) ∧ Fab w' q S cs rm (noneF cs) ∧ (∀ k ∈ S, w.heap.size ≤ k) ∧ Below w.heap.size w w' := by
  have HB1 : Hid (wB (cs : Int) 1 64 = true) := Hid.in (wB_yes ⟨by omega, by omega⟩)
  have HB2 : Hid (wB (rm : Int) 1 64 = true) := Hid.in (wB_yes ⟨by omega, by omega⟩)
  have HOK := Hid.in (FbOk.none h1 h2 h3 h4)
  have hw2 : IntKind.i64.wrap (2 * (cs : Int)) = ((2 * cs : Nat) : Int) := by rw [show 2 * (cs : Int) = ((2 * cs : Nat) : Int) by omega]; exact wrapI (by omega) (by omega)
  have hw3 : IntKind.i64.wrap (2 + ((2 * cs : Nat) : Int)) = ((2 + 2 * cs : Nat) : Int) := by rw [show 2 + ((2 * cs : Nat) : Int) = ((2 + 2 * cs : Nat) : Int) by omega]; exact wrapI (by omega) (by omega)
  have hN : 2 + 2 * cs ≤ 1000000 := by omega
  obtain ⟨N, hNe⟩ : ∃ N, 2 + 2 * cs = N := ⟨_, rfl⟩
  rw [hNe] at hw3 hN
  have HNE := Hid.in hNe
  generalize ((2 * cs : Nat) : Int) = z2 at *
  clear hNe h1 h2 h3 h4
  go_enter Tryd.func9, Tryd.ntmps9
  go_wp2_with fail
  refine (fbwithin_c _ 1 64 true HB1.out w).mono ?_
  rintro r w' ⟨rfl, rfl⟩
  go_wp2_with fail
  refine (fbwithin_c _ 1 64 true HB2.out w').mono ?_
  rintro r w'' ⟨rfl, rfl⟩
  go_wp2_with (first | (at_make; refine wpList_plain rfl fun K hK => wp_make (.tmp 20) 47 44 rfl 1 24 (.slice none 0 0) Tryd.underlying47 Tryd.infoMsgs rfl (by decide) (by decide) (N : Int) N 0 rfl rfl hN (Nat.zero_le _) ?_; intro w1 HO HBl HSz; refine hK _ _ ?_; clear hK K) | fail)
  go_ret2
  have hb : Below w''.heap.size w'' (w1.alloc (.cells #[.int .i64 (cs : Int), .int .i64 (rm : Int), .slice (some ⟨w''.heap.size, 0, none⟩) N N] 66)) := HBl.out.alloc (by rw [HSz.out]; omega) _
  refine ⟨_, _, rfl, ⟨⟨w''.heap.size, N, nilC w''.heap.size N, ?_, ?_, ?_, ?_, ?_, rfl⟩, HOK.out⟩, ?_, hb⟩
  · rw [HNE.out]; exact heap_alloc_new _ _
  · refine (Slots.nils (cap := N) ?_).step (below_alloc w1 _)
    exact HO.out
  · intro hm
    have := bks_nilC hm
    rw [HSz.out] at this
    omega
  · rw [nilC_L]; unfold noneF; rw [HNE.out]
  · intro i c hc
    obtain ⟨rfl, _⟩ := nilC_get hc
    exact ⟨rfl, rfl⟩
  · intro k hk
    rcases List.mem_cons.1 hk with rfl | hk
    · rw [HSz.out]; omega
    · rw [bks_nilC hk]; exact Nat.le_refl _

end Go.Proofs.YtakomlmbdienpaaDoor

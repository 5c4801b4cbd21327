/- DERIVED of the program: a fabric of the call's own, by what it does; the law's of. Own work. -/
import Derived.Test.YtakomlmbdienpaaDoorFbH
namespace Go.Proofs.YtakomlmbdienpaaDoor
open Go.RowKit Go.Extern.Stop Go.Stop Go.Extern

/-- A message that says no more than its kind and core. -/
def ofM (k c : Int) : M13 := (k, c, 0, 0, 0, 0, 0, 0, 0, 0, 0, 0, false)
theorem ofM_eq (k c : Int) : ofM k c = (k, c, 0, 0, 0, 0, 0, 0, 0, 0, 0, 0, false) := rfl
theorem ofM_ok {cs : Nat} {k c : Int} (hk : k = 1 ∨ k = 2 ∨ k = 4 ∨ k = 6 ∨ k = 7 ∨ k = 10 ∨ k = 12 ∨ k = 15) (h0 : 0 ≤ c) (hc : c < (cs : Int)) (h64 : cs ≤ 64) : okM cs (ofM k c) = true := by
  unfold okM
  simp only [Bool.and_eq_true, decide_eq_true_eq, rtB_iff]
  refine ⟨?_, hc⟩
  simp only [ofM, rtP, and_true, true_and]
  refine ⟨by omega, by omega, by omega, ?_⟩
  simp [hk]
theorem ofM_in (k c : Int) (hk : 0 ≤ k ∧ k ≤ 15) (h0 : 0 ≤ c) (h64 : c ≤ 64) : M32 (ofM k c) ∧ M64 (ofM k c) := by
  simp only [ofM, M32, M64]
  omega
theorem fbof_c (k c : Int) (w : World) : Calls Tryd.prog 11 #[.int .i64 k, .int .i64 c] w fun r w' => r = .returned (.agg (mv (ofM k c))) ∧ Below w.heap.size w w' := by
  go_enter Tryd.func11, Tryd.ntmps11
  go_wp2
  (try simp only [Exit.inBlock, Exit.then])
  refine bodyPost_ret (v := .agg (mv (ofM k c))) ?_ rfl ⟨rfl, below_alloc _ _⟩
  rw [results_cell1 rfl]
  simp only [ofM, mv_eq]
  go_simp

/-- A fabric that was made behind w0. -/
structure Lv (w0 w : World) (q : Nat) (S : List Nat) (cs rm : Nat) (P : List (List M13)) : Prop where
  f : Fab w q S cs rm P
  lo : ∀ k ∈ S, w0.heap.size ≤ k
  b : Below w0.heap.size w0 w
theorem Lv.step {w0 w w' : World} {q cs rm : Nat} {S : List Nat} {P : List (List M13)} (h : Lv w0 w q S cs rm P) (hb : Below w.heap.size w w') : Lv w0 w' q S cs rm P :=
  ⟨h.f.step hb, h.lo, bstep h.b (Nat.le_refl _) hb⟩
theorem Lv.turn {w0 w w' : World} {q cs rm : Nat} {S S' : List Nat} {P P' : List (List M13)} (h : Lv w0 w q S cs rm P) (hT : Turned w w' q S S' cs rm P') : Lv w0 w' q S' cs rm P' :=
  ⟨hT.p, (hT.below h.b h.lo h.b.size).2, (hT.below h.b h.lo h.b.size).1⟩
theorem lvnew_c (w : World) (cs rm : Nat) (h1 : 1 ≤ cs) (h2 : cs ≤ 64) (h3 : 1 ≤ rm) (h4 : rm ≤ 64) :
    Calls Tryd.prog 9 #[.int .i64 (cs : Int), .int .i64 (rm : Int)] w fun r w' => ∃ q S, r = .returned (.tuple #[.pointer (some ⟨q, 0, none⟩), .nilIface]) ∧ Lv w w' q S cs rm (noneF cs) :=
  (fbnew_ok w cs rm h1 h2 h3 h4).mono fun _ _ ⟨q, S, hr, hF, hS, hb⟩ => ⟨q, S, hr, hF, hS, hb⟩
/-- Send of a slice literal. -/
theorem lvsend_c (w0 w : World) (sa : Nat → Addr) (hE : Env10 w0 sa) (q cs rm : Nat) (S : List Nat) (P : List (List M13)) (h : Lv w0 w q S cs rm P) (L : List M13) (hIn : InB L) (n : Nat) (hn : L.length = n) (hlen : n ≤ 1000) (c k : Nat) (kk : Int) (hk : kk = (k : Int)) (P' : List (List M13)) (hc : fitsF cs rm P L = (c, k)) (hP : sentF cs rm P L = P') :
    Calls Tryd.prog 10 #[.pointer (some ⟨q, 0, none⟩), .slice (some ⟨w.heap.size, 0, none⟩) n n] (w.alloc (.cells (lits L) 32)) fun r w' => r = .returned (perr sa c opFSend kk) ∧ ∃ S', Lv w0 w' q S' cs rm P' ∧ Fr S w w' := by
  subst hk
  subst hn
  have h' := h.step (below_alloc w (.cells (lits L) 32))
  refine (fbsend_c _ sa (hE.below h'.b) q cs rm S P h'.f (some ⟨w.heap.size, 0, none⟩) L.length L.length L (Rows'.lits w L) rfl hIn hlen (fun k hk => ?_) c k P' hc hP).mono ?_
  · cases hk
    exact h.f.far (Nat.le_refl _)
  · rintro r w' ⟨hr, S', hT⟩
    exact ⟨hr, S', h'.turn hT, (Fr.of_below (below_alloc _ _)).trans hT.f⟩
theorem lvtake_c (w0 w : World) (q cs rm : Nat) (S : List Nat) (P : List (List M13)) (h : Lv w0 w q S cs rm P) (p c k : Int) (m : M13) (b : Bool) (hm : peekF cs P p c k = (m, b)) (P' : List (List M13)) (hP : tookF cs P p c k = P') :
    Calls Tryd.prog 12 #[.pointer (some ⟨q, 0, none⟩), .int .i64 p, .int .i64 c, .int .i64 k] w fun r w' => r = .returned (.tuple #[.agg (mv m), .bool b]) ∧ ∃ S', Lv w0 w' q S' cs rm P' ∧ Fr S w w' :=
  (fbtake_c w q cs rm S P h.f p c k m b hm P' hP).mono fun _ _ ⟨hr, S', hT⟩ => ⟨hr, S', h.turn hT, hT.f⟩

end Go.Proofs.YtakomlmbdienpaaDoor

namespace Go.Proofs.YtakomlmbdienpaaDoor
open Go.RowKit Go.Extern.Stop Go.Stop Go.Extern

theorem inB1 {m : M13} (h : M32 m ∧ M64 m) : InB [m] := fun x hx => by obtain rfl := List.mem_singleton.1 hx; exact h
theorem runs_a : fitsF 2 1 (noneF 2) [ofM 1 0] = (0, 0) :=
  fitsF_ok (badF_none (fun j m hm => by
    have := List.mem_of_getElem? hm
    obtain rfl := List.mem_singleton.1 this
    exact ofM_ok (.inl rfl) (by omega) (by omega) (by omega))) (by rfl)
theorem runs_a' : sentF 2 1 (noneF 2) [ofM 1 0] = [[ofM 1 0], [], [], [], [], []] := by rw [sentF_ok (by rw [runs_a])]; rfl
theorem runs_b : fitsF 2 1 [[ofM 1 0], [], [], [], [], []] [ofM 1 1] = (6, 0) :=
  fitsF_full (badF_none (fun j m hm => by
    have := List.mem_of_getElem? hm
    obtain rfl := List.mem_singleton.1 this
    exact ofM_ok (.inl rfl) (by omega) (by omega) (by omega))) (by rfl)
theorem runs_b' : sentF 2 1 [[ofM 1 0], [], [], [], [], []] [ofM 1 1] = [[ofM 1 0], [], [], [], [], []] := sentF_no (by rw [runs_b]; decide)
theorem runs_c : fitsF 2 1 [[], [], [], [], [], []] [ofM 6 0, ofM 6 1, ofM 6 0] = (6, 2) :=
  fitsF_full (badF_none (fun j m hm => by
    have := List.mem_of_getElem? hm
    simp only [List.mem_cons, List.not_mem_nil, or_false] at this
    rcases this with rfl | rfl | rfl <;> exact ofM_ok (by simp) (by omega) (by omega) (by omega))) (by rfl)
theorem runs_c' : sentF 2 1 [[], [], [], [], [], []] [ofM 6 0, ofM 6 1, ofM 6 0] = [[], [], [], [], [], []] := sentF_no (by rw [runs_c]; decide)
theorem runs_in : InB [ofM 6 0, ofM 6 1, ofM 6 0] := fun m hm => by
  simp only [List.mem_cons, List.not_mem_nil, or_false] at hm
  rcases hm with rfl | rfl | rfl <;> exact ofM_in _ _ (by omega) (by omega) (by omega)

set_option maxHeartbeats 1600000 in
set_option maxRecDepth 20000 in
theorem fabricRuns_any (w : World) (sa : Nat → Addr) (hE : Env10 w sa) : Calls Tryd.prog 3 #[] w fun r w' => r = .returned (.bool true) ∧ Below w.heap.size w w' := by
  have HE := Hid.in hE
  clear hE
  go_enter Tryd.func3, Tryd.ntmps3
  go_wp2_with fail
  refine (lvnew_c w 2 1 (by omega) (by omega) (by omega) (by omega)).mono ?_
  rintro r w1 ⟨q, S1, rfl, h1⟩
  have H1 := Hid.in h1
  clear h1
  go_wp2_with fail
  refine (fbof_c 1 0 _).mono ?_
  rintro r w2 ⟨rfl, hb2⟩
  have H2 := Hid.in (H1.out.step hb2)
  clear hb2 H1
  go_wp2_with (first | (refine wpList_build1 rfl (.tmp 20) rfl (ofM 1 0) rfl ?_) | fail)
  refine (lvsend_c w w2 sa HE.out q 2 1 S1 _ H2.out [ofM 1 0] (inB1 (ofM_in _ _ (by omega) (by omega) (by omega))) 1 rfl (by omega) 0 0 0 rfl _ runs_a runs_a').mono ?_
  rintro r w3 ⟨rfl, S3, h3, _⟩
  rw [perr_none]
  have H3 := Hid.in h3
  clear h3 H2
  go_wp2_with fail
  refine (fbof_c 1 1 _).mono ?_
  rintro r w4 ⟨rfl, hb4⟩
  have H4 := Hid.in (H3.out.step hb4)
  clear hb4 H3
  go_wp2_with (first | (refine wpList_build1 rfl (.tmp 24) rfl (ofM 1 1) rfl ?_) | fail)
  refine (lvsend_c w w4 sa HE.out q 2 1 S3 _ H4.out [ofM 1 1] (inB1 (ofM_in _ _ (by omega) (by omega) (by omega))) 1 rfl (by omega) 6 0 0 rfl _ runs_b runs_b').mono ?_
  rintro r w5 ⟨rfl, S5, h5, _⟩
  have H5 := Hid.in h5
  clear h5 H4
  obtain ⟨vb, hvb⟩ : ∃ v, perr sa 6 opFSend 0 = v := ⟨_, rfl⟩
  have HVb := Hid.in hvb
  rw [hvb]
  clear hvb
  go_wp2_with fail
  refine (lvtake_c w w5 q 2 1 S5 _ H5.out 0 5 0 (ofM 1 0) true rfl [[], [], [], [], [], []] rfl).mono ?_
  rintro r w6 ⟨rfl, S6, h6, _⟩
  have H6 := Hid.in h6
  clear h6 H5
  go_upto_region 6 with (first | (refine wpList_store_mid rfl 32 (.tmp 5) (.tmp 30) rfl w6.heap.size 0 (mv (ofM 1 0)) rfl rfl (there_zero w6 (ofM 1 0)) (Tryd.sizeMv _) (mv_one _) ?_; generalize hW : (w6.alloc _).setCells w6.heap.size 0 (mv (ofM 1 0)).toList = W) | fail)
  have HR : Hid (W.rangeAt w6.heap.size 0 (mc (ofM 1 0))) := Hid.in (by rw [← hW]; exact World.rangeAt_setCells_same _ _ _ _ (by rw [Array.length_toList]; exact there_zero w6 (ofM 1 0)))
  have hg : w6.grownBy W (some w6.heap.size) := by rw [← hW]; exact grown_trans' (grown_of_below (below_alloc _ _) _) (grown_setCells _ _ _ _)
  have H7 := Hid.in (H6.out.step ⟨hg.os, hg.tape, hg.output, hg.size, fun k hk => hg.block k hk (fun e => by cases e; omega)⟩)
  have HN6 : Hid (w6.heap.size ∉ S6) := Hid.in (H6.out.f.far (Nat.le_refl _))
  clear hW hg H6
  have hA : Calls Tryd.prog 13 #[.pointer (some ⟨q, 0, none⟩)] W fun r w' => r = .returned (.int .i64 0) ∧ w' = W := fball_c W q 2 1 S6 _ H7.out.f 0 rfl
  have HA := Hid.in hA
  clear hA
  go_wp2_with fail
  refine HA.out.mono ?_
  rintro r w8 ⟨rfl, rfl⟩
  clear HA
  go_wp2_with fail
  refine (fbof_c 6 0 _).mono ?_
  rintro r w9 ⟨rfl, hb9⟩
  go_wp2_with fail
  refine (fbof_c 6 1 _).mono ?_
  rintro r w10 ⟨rfl, hb10⟩
  go_wp2_with fail
  refine (fbof_c 6 0 _).mono ?_
  rintro r w11 ⟨rfl, hb11⟩
  have hbs := bstep (bstep hb9 (Nat.le_refl _) hb10) (Nat.le_refl _) hb11
  have HR2 := Hid.in (rangeAt_step HR.out hbs)
  have H11 := Hid.in (H7.out.step hbs)
  clear hb9 hb10 hb11 hbs HR H7
  go_wp2_with (first | (refine wpList_build3 rfl (.tmp 35) (.tmp 36) (.tmp 37) rfl (ofM 6 0) (ofM 6 1) (ofM 6 0) rfl rfl rfl ?_) | fail)
  refine (lvsend_c w w11 sa HE.out q 2 1 S6 _ H11.out [ofM 6 0, ofM 6 1, ofM 6 0] runs_in 3 rfl (by omega) 6 2 2 rfl _ runs_c runs_c').mono ?_
  rintro r w12 ⟨rfl, S12, h12, hf12⟩
  have HR3 : Hid (w12.rangeAt w6.heap.size 0 (mc (ofM 1 0))) := Hid.in (rangeAt_fr HR2.out hf12 HN6.out)
  have H12 := Hid.in h12
  clear h12 HR2 H11
  obtain ⟨vc, hvc⟩ : ∃ v, perr sa 6 opFSend 2 = v := ⟨_, rfl⟩
  have HVc := Hid.in hvc
  rw [hvc]
  clear hvc
  go_upto_region 8 with fail
  have n0 : ∀ n : Kin (fun X => Below w12.heap.size w12 X), n.of.cell? ⟨w6.heap.size, 0, none⟩ = some (.int .i64 1) := fun n => (n.in.cell (p := ⟨w6.heap.size, 0, none⟩) (lt_cell (HR3.out 0 _ rfl))).trans (by have h := HR3.out 0 _ rfl; rw [Nat.zero_add] at h; exact h)
  have n1 : ∀ n : Kin (fun X => Below w12.heap.size w12 X), n.of.cell? ⟨w6.heap.size, 1, none⟩ = some (.int .i64 0) := fun n => (n.in.cell (p := ⟨w6.heap.size, 1, none⟩) (lt_cell (HR3.out 1 _ rfl))).trans (by have h := HR3.out 1 _ rfl; rw [Nat.zero_add] at h; exact h)
  have n2 : ∀ n : Kin (fun X => Below w12.heap.size w12 X), n.of.cell? ⟨w6.heap.size, 2, none⟩ = some (.int .i64 0) := fun n => (n.in.cell (p := ⟨w6.heap.size, 2, none⟩) (lt_cell (HR3.out 2 _ rfl))).trans (by have h := HR3.out 2 _ rfl; rw [Nat.zero_add] at h; exact h)
  have n3 : ∀ n : Kin (fun X => Below w12.heap.size w12 X), n.of.cell? ⟨w6.heap.size, 3, none⟩ = some (.int .i64 0) := fun n => (n.in.cell (p := ⟨w6.heap.size, 3, none⟩) (lt_cell (HR3.out 3 _ rfl))).trans (by have h := HR3.out 3 _ rfl; rw [Nat.zero_add] at h; exact h)
  have n4 : ∀ n : Kin (fun X => Below w12.heap.size w12 X), n.of.cell? ⟨w6.heap.size, 4, none⟩ = some (.int .i64 0) := fun n => (n.in.cell (p := ⟨w6.heap.size, 4, none⟩) (lt_cell (HR3.out 4 _ rfl))).trans (by have h := HR3.out 4 _ rfl; rw [Nat.zero_add] at h; exact h)
  have n5 : ∀ n : Kin (fun X => Below w12.heap.size w12 X), n.of.cell? ⟨w6.heap.size, 5, none⟩ = some (.int .i64 0) := fun n => (n.in.cell (p := ⟨w6.heap.size, 5, none⟩) (lt_cell (HR3.out 5 _ rfl))).trans (by have h := HR3.out 5 _ rfl; rw [Nat.zero_add] at h; exact h)
  have n6 : ∀ n : Kin (fun X => Below w12.heap.size w12 X), n.of.cell? ⟨w6.heap.size, 6, none⟩ = some (.int .i64 0) := fun n => (n.in.cell (p := ⟨w6.heap.size, 6, none⟩) (lt_cell (HR3.out 6 _ rfl))).trans (by have h := HR3.out 6 _ rfl; rw [Nat.zero_add] at h; exact h)
  have n7 : ∀ n : Kin (fun X => Below w12.heap.size w12 X), n.of.cell? ⟨w6.heap.size, 7, none⟩ = some (.int .u32 0) := fun n => (n.in.cell (p := ⟨w6.heap.size, 7, none⟩) (lt_cell (HR3.out 7 _ rfl))).trans (by have h := HR3.out 7 _ rfl; rw [Nat.zero_add] at h; exact h)
  have n8 : ∀ n : Kin (fun X => Below w12.heap.size w12 X), n.of.cell? ⟨w6.heap.size, 8, none⟩ = some (.int .u32 0) := fun n => (n.in.cell (p := ⟨w6.heap.size, 8, none⟩) (lt_cell (HR3.out 8 _ rfl))).trans (by have h := HR3.out 8 _ rfl; rw [Nat.zero_add] at h; exact h)
  have n9 : ∀ n : Kin (fun X => Below w12.heap.size w12 X), n.of.cell? ⟨w6.heap.size, 9, none⟩ = some (.int .u32 0) := fun n => (n.in.cell (p := ⟨w6.heap.size, 9, none⟩) (lt_cell (HR3.out 9 _ rfl))).trans (by have h := HR3.out 9 _ rfl; rw [Nat.zero_add] at h; exact h)
  have n10 : ∀ n : Kin (fun X => Below w12.heap.size w12 X), n.of.cell? ⟨w6.heap.size, 10, none⟩ = some (.int .u32 0) := fun n => (n.in.cell (p := ⟨w6.heap.size, 10, none⟩) (lt_cell (HR3.out 10 _ rfl))).trans (by have h := HR3.out 10 _ rfl; rw [Nat.zero_add] at h; exact h)
  have n11 : ∀ n : Kin (fun X => Below w12.heap.size w12 X), n.of.cell? ⟨w6.heap.size, 11, none⟩ = some (.int .u32 0) := fun n => (n.in.cell (p := ⟨w6.heap.size, 11, none⟩) (lt_cell (HR3.out 11 _ rfl))).trans (by have h := HR3.out 11 _ rfl; rw [Nat.zero_add] at h; exact h)
  have n12 : ∀ n : Kin (fun X => Below w12.heap.size w12 X), n.of.cell? ⟨w6.heap.size, 12, none⟩ = some (.bool false) := fun n => (n.in.cell (p := ⟨w6.heap.size, 12, none⟩) (lt_cell (HR3.out 12 _ rfl))).trans (by have h := HR3.out 12 _ rfl; rw [Nat.zero_add] at h; exact h)
  have HIb : Hid (∀ n : Kin (fun X => Below w12.heap.size w12 X), Calls Tryd.prog 14 #[vb, .int .i64 6, .string opFSend, .int .i64 0] n.of fun r w' => r = .returned (.bool true) ∧ Below n.of.heap.size n.of w') := Hid.in (fun n => by rw [← HVb.out]; exact kIs_perr _ _ 6 (by omega) _ sa (HE.out.below (bstep H12.out.b (Nat.le_refl _) n.in)))
  have HIc : Hid (∀ n : Kin (fun X => Below w12.heap.size w12 X), Calls Tryd.prog 14 #[vc, .int .i64 6, .string opFSend, .int .i64 2] n.of fun r w' => r = .returned (.bool true) ∧ Below n.of.heap.size n.of w') := Hid.in (fun n => by rw [← HVc.out]; exact kIs_perr _ _ 6 (by omega) _ sa (HE.out.below (bstep H12.out.b (Nat.le_refl _) n.in)))
  have HOf : Hid (∀ n : Kin (fun X => Below w12.heap.size w12 X), Calls Tryd.prog 11 #[.int .i64 1, .int .i64 0] n.of fun r w' => r = .returned (.agg #[.int .i64 1, .int .i64 0, .int .i64 0, .int .i64 0, .int .i64 0, .int .i64 0, .int .i64 0, .int .u32 0, .int .u32 0, .int .u32 0, .int .u32 0, .int .u32 0, .bool false]) ∧ Below n.of.heap.size n.of w') := Hid.in (fun n => fbof_c 1 0 n.of)
  have HLn : Hid (∀ n : Kin (fun X => Below w12.heap.size w12 X), Calls Tryd.prog 15 #[.pointer (some ⟨q, 0, none⟩), .int .i64 1, .int .i64 0] n.of fun r w' => r = .returned (.int .i64 0) ∧ w' = n.of) := Hid.in (fun n => fblen_c n.of q 2 1 S12 _ (H12.out.step n.in).f 1 0 0 rfl)
  have hne : ∀ w', (binOp .eql 32 (.agg #[.int .i64 1, .int .i64 0, .int .i64 0, .int .i64 0, .int .i64 0, .int .i64 0, .int .i64 0, .int .u32 0, .int .u32 0, .int .u32 0, .int .u32 0, .int .u32 0, .bool false]) (.agg #[.int .i64 1, .int .i64 0, .int .i64 0, .int .i64 0, .int .i64 0, .int .i64 0, .int .i64 0, .int .u32 0, .int .u32 0, .int .u32 0, .int .u32 0, .int .u32 0, .bool false])).run Tryd.prog w' = .ok (.bool true) w' := fun w' => by
    have h := eq_msg (ofM 1 0) (ofM 1 0) w'
    rw [(eqB_iff _ _).2 rfl] at h
    exact h
  refine wp_region_kin (C := fun X => Below w12.heap.size w12 X) (by kernel_rfl) (by kernel_rfl) (Below.refl _ _).drew (fun hne' => ?_)
  repeat (go_big_quiet_step (first | (go_at_call 14; first | (with_reducible exact Kin.below (Nat.le_refl _) _ (HIb.out _)) | (with_reducible exact Kin.below (Nat.le_refl _) _ (HIc.out _))) | (go_at_call 11; exact Kin.below (Nat.le_refl _) _ (HOf.out _)) | (go_at_call 15; exact Kin.same _ (HLn.out _))))
  refine wpQuiet_nil ?_
  rintro w13 ⟨n, rfl⟩
  have HT := Hid.in n.in
  clear hne n0 n1 n2 n3 n4 n5 n6 n7 n8 n9 n10 n11 n12
  go_wp2
  go_ret
  exact ⟨rfl, bstep H12.out.b (Nat.le_refl _) HT.out⟩

end Go.Proofs.YtakomlmbdienpaaDoor

namespace Go.Proofs.YtakomlmbdienpaaDoor
open Go.RowKit Go.Extern.Stop Go.Stop Go.Extern

theorem putF_row {cs : Nat} {P : List (List M13)} {m : M13} (h : thM cs m < P.length) (i : Nat) : (putF cs P m).getD i [] = P.getD i [] ++ (if thM cs m = i then [m] else []) := by
  unfold putF
  by_cases e : thM cs m = i
  · subst e
    rw [if_pos rfl]
    simp [List.getD, h]
  · rw [if_neg e]
    simp [List.getD, List.getElem?_set_ne e]
theorem putsF_row {cs : Nat} : ∀ {l : List M13} {P : List (List M13)} (_ : P.length = 2 + 2 * cs) (_ : ∀ m ∈ l, okM cs m = true) (i : Nat), (putsF cs P l).getD i [] = P.getD i [] ++ l.filter (fun m => decide (thM cs m = i))
  | [], P, _, _, i => by simp [putsF]
  | m :: r, P, hP, h, i => by
    have h1 := putF_row (m := m) (P := P) (by rw [hP]; exact (okM_th (h m List.mem_cons_self)).2) i
    have h2 := putsF_row (l := r) (P := putF cs P m) (by rw [len_putF]; exact hP) (fun x hx => h x (List.mem_cons_of_mem _ hx)) i
    show (putsF cs (putF cs P m) r).getD i [] = _
    rw [h2, h1, List.filter_cons, List.append_assoc]
    congr 1
    by_cases e : thM cs m = i
    · simp [e]
    · simp [e]
theorem fullF_room {cs rm : Nat} {l : List M13} {P : List (List M13)} (hP : P.length = 2 + 2 * cs) (h : ∀ m ∈ l, okM cs m = true) (hr : ∀ i, lenF P i + l.length ≤ rm) : fullF cs rm P l = none := by
  refine fullF_none (fun j m hm => ?_)
  have hj := (List.getElem?_eq_some_iff.1 hm).1
  have h1 := putsF_row (l := l.take j) hP (fun x hx => h x (List.mem_of_mem_take hx)) (thM cs m)
  have h2 := hr (thM cs m)
  unfold lenF at h2 ⊢
  rw [h1, List.length_append]
  have h3 : ((l.take j).filter (fun x => decide (thM cs x = thM cs m))).length ≤ j := Nat.le_trans (List.length_filter_le _ _) (by rw [List.length_take]; omega)
  omega
theorem badF_all {cs : Nat} {l : List M13} (h : ∀ m ∈ l, okM cs m = true) : badF cs l = none := badF_none (fun _ m hm => h m (List.mem_of_getElem? hm))
theorem noneF_row (cs i : Nat) : (noneF cs).getD i [] = [] := by
  unfold noneF
  simp only [List.getD, List.getElem?_replicate]
  split <;> rfl
theorem noneF_len (cs : Nat) : (noneF cs).length = 2 + 2 * cs := List.length_replicate
theorem peekF_row {cs : Nat} {P : List (List M13)} {p c k : Int} {i : Nat} {r : List M13} {m : M13} {b : Bool} (h : plN cs p c = some i) (hr : P.getD i [] = r) (hb : (if 0 ≤ k ∧ k < (r.length : Int) then (r.getD k.toNat zero13, true) else (zero13, false)) = (m, b)) : peekF cs P p c k = (m, b) := by
  unfold peekF lenF
  rw [h]
  simp only [hr]
  exact hb
theorem thM_of {cs : Nat} {m : M13} {i : Nat} (h : plN cs (poolS m.1) m.2.1 = some i) : thM cs m = i := by unfold thM; rw [h]; rfl
/-- Within's answer as a number of the right size. -/
theorem within_n (n lo hi : Int) (w : World) (h0 : 0 ≤ lo) (h1 : lo ≤ hi) (h2 : hi ≤ 1000) (q : Nat) (hq : wI n lo hi = (q : Int)) :
    Calls Tryd.prog 26 #[.int .i64 n, .int .i64 lo, .int .i64 hi] w fun r w' => r = .returned (.int .i64 (q : Int)) ∧ w' = w := by
  rw [← hq]; exact within_i n lo hi w (by omega) h1 h2
theorem wI_nat (n lo hi : Int) (h0 : 0 ≤ lo) (h1 : lo ≤ hi) : ∃ q : Nat, wI n lo hi = (q : Int) ∧ lo ≤ (q : Int) ∧ (q : Int) ≤ hi := by
  have h := wI_le n lo hi h1
  exact ⟨(wI n lo hi).toNat, by omega, by omega, by omega⟩

end Go.Proofs.YtakomlmbdienpaaDoor

namespace Go.Proofs.YtakomlmbdienpaaDoor
open Go.RowKit Go.Extern.Stop Go.Stop Go.Extern

/-- Blocks that aren't the fabric's stay, and stay no blocks of it. -/
structure Beside (w w' : World) (S S' : List Nat) : Prop where
  f : Fr S w w'
  s : ∀ k ∈ S', k ∈ S ∨ w.heap.size ≤ k
theorem Beside.blk {w w' : World} {S S' : List Nat} (h : Beside w w' S S') {B : Nat} {o : Obj} (hB : w.heap[B]? = some o) (hn : B ∉ S) : w'.heap[B]? = some o ∧ B ∉ S' :=
  ⟨(h.f.block B (blk_lt hB) hn).trans hB, fun hm => by rcases h.s B hm with h1 | h1; (· exact hn h1); have := blk_lt hB; omega⟩
theorem Beside.row {w w' : World} {S S' : List Nat} (h : Beside w w' S S') {t : TypeId} {m B n cap : Nat} {ao : Option Addr} {rs : List (List Value)} (hO : OwnA t m w B ao n cap rs) (hn : ∀ k, oblk ao = some k → k ∉ S) : OwnA t m w' B ao n cap rs ∧ ∀ k, oblk ao = some k → k ∉ S' :=
  ⟨hO.fr h.f hn, fun k hk => by obtain ⟨_, cur, hc⟩ := hO.blk k hk; exact (h.blk hc (hn k hk)).2⟩
theorem lvsend_f (w0 w : World) (sa : Nat → Addr) (hE : Env10 w0 sa) (q cs rm : Nat) (S : List Nat) (P : List (List M13)) (h : Lv w0 w q S cs rm P) (L : List M13) (hIn : InB L) (n : Nat) (hn : L.length = n) (hlen : n ≤ 1000) (c k : Nat) (kk : Int) (hk : kk = (k : Int)) (P' : List (List M13)) (hc : fitsF cs rm P L = (c, k)) (hP : sentF cs rm P L = P') :
    Calls Tryd.prog 10 #[.pointer (some ⟨q, 0, none⟩), .slice (some ⟨w.heap.size, 0, none⟩) n n] (w.alloc (.cells (lits L) 32)) fun r w' => r = .returned (perr sa c opFSend kk) ∧ ∃ S', Lv w0 w' q S' cs rm P' ∧ Beside w w' S S' := by
  subst hk
  subst hn
  have h' := h.step (below_alloc w (.cells (lits L) 32))
  refine (fbsend_c _ sa (hE.below h'.b) q cs rm S P h'.f (some ⟨w.heap.size, 0, none⟩) L.length L.length L (Rows'.lits w L) rfl hIn hlen (fun k hk => ?_) c k P' hc hP).mono ?_
  · cases hk
    exact h.f.far (Nat.le_refl _)
  · rintro r w' ⟨hr, S', hT⟩
    exact ⟨hr, S', h'.turn hT, (Fr.of_below (below_alloc _ _)).trans hT.f, fun k hk => (hT.s k hk).imp id (fun h1 => Nat.le_trans (below_alloc w (.cells (lits L) 32)).size h1)⟩
theorem lvsendr_f (w0 w : World) (sa : Nat → Addr) (hE : Env10 w0 sa) (q cs rm : Nat) (S : List Nat) (P : List (List M13)) (h : Lv w0 w q S cs rm P) (ao : Option Addr) (cap : Nat) (L : List M13) (hL : Rows' 13 w ao cap (L.map mc)) (hsep : ∀ k, oblk ao = some k → k ∉ S) (hIn : InB L) (n : Nat) (hn : L.length = n) (hlen : n ≤ 1000) (c k : Nat) (kk : Int) (hk : kk = (k : Int)) (P' : List (List M13)) (hc : fitsF cs rm P L = (c, k)) (hP : sentF cs rm P L = P') :
    Calls Tryd.prog 10 #[.pointer (some ⟨q, 0, none⟩), .slice ao n cap] w fun r w' => r = .returned (perr sa c opFSend kk) ∧ ∃ S', Lv w0 w' q S' cs rm P' ∧ Beside w w' S S' := by
  subst hk
  subst hn
  refine (fbsend_c _ sa (hE.below h.b) q cs rm S P h.f ao L.length cap L hL rfl hIn hlen hsep c k P' hc hP).mono ?_
  rintro r w' ⟨hr, S', hT⟩
  exact ⟨hr, S', h.turn hT, hT.f, hT.s⟩
theorem lvtake_f (w0 w : World) (q cs rm : Nat) (S : List Nat) (P : List (List M13)) (h : Lv w0 w q S cs rm P) (p c k : Int) (m : M13) (b : Bool) (hm : peekF cs P p c k = (m, b)) (P' : List (List M13)) (hP : tookF cs P p c k = P') :
    Calls Tryd.prog 12 #[.pointer (some ⟨q, 0, none⟩), .int .i64 p, .int .i64 c, .int .i64 k] w fun r w' => r = .returned (.tuple #[.agg (mv m), .bool b]) ∧ ∃ S', Lv w0 w' q S' cs rm P' ∧ Beside w w' S S' :=
  (fbtake_c w q cs rm S P h.f p c k m b hm P' hP).mono fun _ _ ⟨hr, S', hT⟩ => ⟨hr, S', h.turn hT, hT.f, hT.s⟩
theorem FbOk.all_le {cs rm : Nat} {P : List (List M13)} (h : FbOk cs rm P) : allF P ≤ 8320 := by
  have h1 := allF_le (rm := 64) (P := P) (fun i => Nat.le_trans (h.room i) h.rm64)
  have h2 := h.len
  have h3 := h.cs64
  have h4 : P.length * 64 ≤ 130 * 64 := Nat.mul_le_mul_right 64 (by omega)
  omega
/-- A room of its own for one message, or none. -/
theorem one_ok {cs rm : Nat} {P : List (List M13)} {m : M13} (hm : okM cs m = true) (hl : lenF P (thM cs m) < rm) : fitsF cs rm P [m] = (0, 0) ∧ sentF cs rm P [m] = putF cs P m := by
  have h1 : fitsF cs rm P [m] = (0, 0) := fitsF_ok (badF_all (fun x hx => by obtain rfl := List.mem_singleton.1 hx; exact hm)) (by unfold fullF; rw [if_neg (by omega)]; rfl)
  exact ⟨h1, by rw [sentF_ok (by rw [h1])]; rfl⟩
theorem one_full {cs rm : Nat} {P : List (List M13)} {m : M13} (hm : okM cs m = true) (hl : rm ≤ lenF P (thM cs m)) : fitsF cs rm P [m] = (6, 0) ∧ sentF cs rm P [m] = P := by
  have h1 : fitsF cs rm P [m] = (6, 0) := fitsF_full (badF_all (fun x hx => by obtain rfl := List.mem_singleton.1 hx; exact hm)) (by unfold fullF; rw [if_pos hl])
  exact ⟨h1, sentF_no (by rw [h1]; decide)⟩
theorem one_bad {cs rm : Nat} {P : List (List M13)} {m : M13} (hm : okM cs m = false) : fitsF cs rm P [m] = (1, 0) ∧ sentF cs rm P [m] = P := by
  have h1 : fitsF cs rm P [m] = (1, 0) := fitsF_bad (badF_some (fun j _ hj => absurd hj (Nat.not_lt_zero _)) ⟨m, rfl, hm⟩)
  exact ⟨h1, sentF_no (by rw [h1]; decide)⟩

end Go.Proofs.YtakomlmbdienpaaDoor

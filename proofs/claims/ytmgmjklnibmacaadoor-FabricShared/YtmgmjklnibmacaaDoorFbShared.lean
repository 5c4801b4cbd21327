/- DERIVED of the program: FabricShared answers true. Own work. -/
import Derived.Test.YtmgmjklnibmacaaDoorFbJ
namespace Go.Proofs.YtmgmjklnibmacaaDoor
open Go.RowKit Go.Extern.Stop Go.Stop Go.Extern

theorem th2 {cs : Nat} {c : Int} : thM cs (ofM 2 c) = 0 := thM_of rfl
theorem th12 {cs : Nat} {c : Int} : thM cs (ofM 12 c) = 1 := thM_of rfl
theorem th6 {cs c : Nat} (h : c < cs) : thM cs (ofM 6 (c : Int)) = 2 + 2 * c := thM_of (by have := plN_1 (cs := cs) (c := (c : Int)) (by omega); rw [Int.toNat_natCast] at this; exact this)
theorem th15 {cs c : Nat} (h : c < cs) : thM cs (ofM 15 (c : Int)) = 3 + 2 * c := thM_of (by have := plN_3 (cs := cs) (c := (c : Int)) (by omega); rw [Int.toNat_natCast] at this; exact this)
/-- The four that are sent. -/
def four (c : Int) : List M13 := [ofM 2 c, ofM 12 c, ofM 6 c, ofM 15 c]
theorem four_ok {cs c : Nat} (h : c < cs) (h64 : cs ≤ 64) : ∀ m ∈ four c, okM cs m = true := fun m hm => by
  simp only [four, List.mem_cons, List.not_mem_nil, or_false] at hm
  rcases hm with rfl | rfl | rfl | rfl <;> exact ofM_ok (by simp) (by omega) (by omega) h64
theorem four_in {c : Nat} (h : c ≤ 64) : InB (four c) := fun m hm => by
  simp only [four, List.mem_cons, List.not_mem_nil, or_false] at hm
  rcases hm with rfl | rfl | rfl | rfl <;> exact ofM_in _ _ (by omega) (by omega) (by omega)
theorem four_fits {cs c : Nat} (h : c < cs) (h64 : cs ≤ 64) : fitsF cs 4 (noneF cs) (four c) = (0, 0) :=
  fitsF_ok (badF_all (four_ok h h64)) (fullF_room (noneF_len cs) (four_ok h h64) (fun i => by rw [lenF_none]; exact Nat.le_refl _))
theorem four_sent {cs c : Nat} (h : c < cs) (h64 : cs ≤ 64) : sentF cs 4 (noneF cs) (four c) = putsF cs (noneF cs) (four c) := sentF_ok (by rw [four_fits h h64])
theorem four_row {cs c : Nat} (h : c < cs) (h64 : cs ≤ 64) (i : Nat) : (putsF cs (noneF cs) (four c)).getD i [] = (if 0 = i then [ofM 2 c] else []) ++ (if 1 = i then [ofM 12 c] else []) ++ (if 2 + 2 * c = i then [ofM 6 c] else []) ++ (if 3 + 2 * c = i then [ofM 15 c] else []) := by
  rw [putsF_row (noneF_len cs) (four_ok h h64), noneF_row]
  unfold four
  simp only [List.filter_cons, List.filter_nil, th2, th12, th6 h, th15 h, decide_eq_true_eq]
  split <;> split <;> split <;> split <;> simp
theorem four_0 {cs c : Nat} (h : c < cs) (h64 : cs ≤ 64) (a : Int) : peekF cs (putsF cs (noneF cs) (four c)) 0 a 0 = (ofM 2 c, true) :=
  peekF_row (plN_0 cs a) (by rw [four_row h h64, if_pos rfl, if_neg (by omega), if_neg (by omega), if_neg (by omega)]) rfl
theorem four_2 {cs c : Nat} (h : c < cs) (h64 : cs ≤ 64) (a : Int) : peekF cs (putsF cs (noneF cs) (four c)) 2 a 0 = (ofM 12 c, true) :=
  peekF_row (plN_2 cs a) (by rw [four_row h h64, if_neg (by omega), if_pos rfl, if_neg (by omega), if_neg (by omega)]) rfl
theorem plN_1n {cs k : Nat} (h : k < cs) : plN cs 1 (k : Int) = some (2 + 2 * k) := by have := plN_1 (cs := cs) (c := (k : Int)) (by omega); rwa [Int.toNat_natCast] at this
theorem plN_3n {cs k : Nat} (h : k < cs) : plN cs 3 (k : Int) = some (3 + 2 * k) := by have := plN_3 (cs := cs) (c := (k : Int)) (by omega); rwa [Int.toNat_natCast] at this
theorem four_1 {cs c k : Nat} (h : c < cs) (h64 : cs ≤ 64) (hk : k < cs) (he : k = c) : peekF cs (putsF cs (noneF cs) (four c)) 1 (k : Int) 0 = (ofM 6 c, true) :=
  peekF_row (plN_1n hk) (by rw [four_row h h64, if_neg (by omega), if_neg (by omega), if_pos (by omega), if_neg (by omega)]) rfl
theorem four_3 {cs c k : Nat} (h : c < cs) (h64 : cs ≤ 64) (hk : k < cs) (he : k = c) : peekF cs (putsF cs (noneF cs) (four c)) 3 (k : Int) 0 = (ofM 15 c, true) :=
  peekF_row (plN_3n hk) (by rw [four_row h h64, if_neg (by omega), if_neg (by omega), if_neg (by omega), if_pos (by omega)]) rfl
theorem four_1n {cs c k : Nat} (h : c < cs) (h64 : cs ≤ 64) (hk : k < cs) (he : k ≠ c) : peekF cs (putsF cs (noneF cs) (four c)) 1 (k : Int) 0 = (zero13, false) :=
  peekF_row (plN_1n hk) (by rw [four_row h h64, if_neg (by omega), if_neg (by omega), if_neg (by omega), if_neg (by omega)]) rfl
theorem four_3n {cs c k : Nat} (h : c < cs) (h64 : cs ≤ 64) (hk : k < cs) (he : k ≠ c) : peekF cs (putsF cs (noneF cs) (four c)) 3 (k : Int) 0 = (zero13, false) :=
  peekF_row (plN_3n hk) (by rw [four_row h h64, if_neg (by omega), if_neg (by omega), if_neg (by omega), if_neg (by omega)]) rfl

set_option maxHeartbeats 3200000 in
set_option maxRecDepth 20000 in
theorem fabricShared_any (w : World) (sa : Nat → Addr) (hE : Env10 w sa) (n0 n1 n2 : Int) : Calls Tryd.prog 8 #[.int .i64 n0, .int .i64 n1, .int .i64 n2] w fun r w' => r = .returned (.bool true) ∧ Below w.heap.size w w' := by
  obtain ⟨n, en, hn1, hn2⟩ := wI_nat n0 2 6 (by omega) (by omega)
  obtain ⟨c, ec, hc1, hc2⟩ := wI_nat n1 0 ((n : Int) - 1) (by omega) (by omega)
  obtain ⟨k, ek, hk1, hk2⟩ := wI_nat n2 0 ((n : Int) - 1) (by omega) (by omega)
  have W0 := Hid.in (fun w => within_n n0 2 6 w (by omega) (by omega) (by omega) n en)
  have W1 := Hid.in (fun w => within_n n1 0 ((n : Int) - 1) w (by omega) (by omega) (by omega) c ec)
  have W2 := Hid.in (fun w => within_n n2 0 ((n : Int) - 1) w (by omega) (by omega) (by omega) k ek)
  have HE := Hid.in hE
  have hcn : c < n := by omega
  have hkn : k < n := by omega
  have h64 : n ≤ 64 := by omega
  have hwn : IntKind.i64.wrap ((n : Int) - 1) = (n : Int) - 1 := wrapI (by omega) (by omega)
  obtain ⟨N1, hN1⟩ : ∃ N1, (n : Int) - 1 = N1 := ⟨_, rfl⟩
  rw [hN1] at W1 W2
  have hwn1 : IntKind.i64.wrap ((n : Int) - 1) = N1 := by rw [hwn, hN1]
  clear hwn en ec ek hE
  go_enter Tryd.func8, Tryd.ntmps8
  go_wp2_with fail
  refine (W0.out _).mono ?_
  rintro r w' ⟨rfl, rfl⟩
  go_wp2_with fail
  refine (lvnew_c w' n 4 (by omega) h64 (by omega) (by omega)).mono ?_
  rintro r w1 ⟨q, S1, rfl, h1⟩
  have H1 := Hid.in h1
  clear h1
  go_wp2_with fail
  refine (W1.out _).mono ?_
  rintro r w2 ⟨rfl, rfl⟩
  go_wp2_with fail
  refine (W2.out _).mono ?_
  rintro r w1 ⟨rfl, rfl⟩
  go_wp2_with fail
  refine (fbof_c 2 c _).mono ?_
  rintro r wa ⟨rfl, hba⟩
  have Ha := Hid.in (H1.out.step hba)
  clear hba H1
  go_wp2_with fail
  refine (fbof_c 12 c _).mono ?_
  rintro r wb ⟨rfl, hbb⟩
  have Hb := Hid.in (Ha.out.step hbb)
  clear hbb Ha
  go_wp2_with fail
  refine (fbof_c 6 c _).mono ?_
  rintro r wc ⟨rfl, hbc⟩
  have Hc := Hid.in (Hb.out.step hbc)
  clear hbc Hb
  go_wp2_with fail
  refine (fbof_c 15 c _).mono ?_
  rintro r wd ⟨rfl, hbd⟩
  have Hd := Hid.in (Hc.out.step hbd)
  clear hbd Hc
  go_wp2_with (first | (refine wpList_build4 rfl (.tmp 43) (.tmp 45) (.tmp 47) (.tmp 49) rfl (ofM 2 c) (ofM 12 c) (ofM 6 c) (ofM 15 c) rfl rfl rfl rfl ?_) | fail)
  refine (lvsend_c w' wd sa HE.out q n 4 S1 _ Hd.out (four c) (four_in (by omega)) 4 rfl (by omega) 0 0 0 rfl _ (four_fits hcn h64) (four_sent hcn h64)).mono ?_
  rintro r w3 ⟨rfl, S3, h3, _⟩
  rw [perr_none]
  have H3 := Hid.in h3
  clear h3 Hd
  go_wp2_with fail
  refine (fbpeek_c w3 q n 4 S3 _ H3.out.f 0 n2 0 (ofM 2 c) true (four_0 hcn h64 n2)).mono ?_
  rintro r v1 ⟨rfl, hb1⟩
  have Hv1 := Hid.in (H3.out.step hb1)
  have B1 := Hid.in hb1
  clear hb1
  go_upto_region 9 with (first | (refine wpList_store_mid rfl 32 (.tmp 12) (.tmp 57) rfl v1.heap.size 0 (mv (ofM 2 c)) rfl rfl (there_zero v1 (ofM 2 c)) (Tryd.sizeMv _) (mv_one _) ?_; generalize hu1 : (v1.alloc _).setCells v1.heap.size 0 (mv (ofM 2 c)).toList = u1) | fail)
  have Ru1 : Hid (u1.rangeAt v1.heap.size 0 (mc (ofM 2 c))) := Hid.in (by rw [← hu1]; exact World.rangeAt_setCells_same _ _ _ _ (by rw [Array.length_toList]; exact there_zero v1 (ofM 2 c)))
  have Gu1 : Hid (Below v1.heap.size v1 u1) := Hid.in (by
    have hg : v1.grownBy u1 (some v1.heap.size) := by rw [← hu1]; exact grown_trans' (grown_of_below (below_alloc _ _) _) (grown_setCells _ _ _ _)
    exact ⟨hg.os, hg.tape, hg.output, hg.size, fun k hk => hg.block k hk (fun e => by cases e; omega)⟩)
  clear hu1
  have Hu1 := Hid.in (Hv1.out.step Gu1.out)
  clear Hv1 H3
  go_wp2_with fail
  refine (fbpeek_c u1 q n 4 S3 _ Hu1.out.f 2 n2 0 (ofM 12 c) true (four_2 hcn h64 n2)).mono ?_
  rintro r v2 ⟨rfl, hb2⟩
  have Hv2 := Hid.in (Hu1.out.step hb2)
  have B2 := Hid.in hb2
  clear hb2
  go_upto_region 10 with (first | (refine wpList_store_mid rfl 32 (.tmp 14) (.tmp 63) rfl v2.heap.size 0 (mv (ofM 12 c)) rfl rfl (there_zero v2 (ofM 12 c)) (Tryd.sizeMv _) (mv_one _) ?_; generalize hu2 : (v2.alloc _).setCells v2.heap.size 0 (mv (ofM 12 c)).toList = u2) | fail)
  have Ru2 : Hid (u2.rangeAt v2.heap.size 0 (mc (ofM 12 c))) := Hid.in (by rw [← hu2]; exact World.rangeAt_setCells_same _ _ _ _ (by rw [Array.length_toList]; exact there_zero v2 (ofM 12 c)))
  have Gu2 : Hid (Below v2.heap.size v2 u2) := Hid.in (by
    have hg : v2.grownBy u2 (some v2.heap.size) := by rw [← hu2]; exact grown_trans' (grown_of_below (below_alloc _ _) _) (grown_setCells _ _ _ _)
    exact ⟨hg.os, hg.tape, hg.output, hg.size, fun k hk => hg.block k hk (fun e => by cases e; omega)⟩)
  clear hu2
  have Hu2 := Hid.in (Hv2.out.step Gu2.out)
  clear Hv2 Hu1
  by_cases hkc : k = c
  · obtain rfl : k = c := hkc
    go_wp2_with fail
    refine (fbpeek_c u2 q n 4 S3 _ Hu2.out.f 1 (k : Int) 0 (ofM 6 k) true (four_1 hcn h64 hcn rfl)).mono ?_
    rintro r v3 ⟨rfl, hb3⟩
    have Hv3 := Hid.in (Hu2.out.step hb3)
    have B3 := Hid.in hb3
    clear hb3
    go_upto_region 11 with (first | (refine wpList_store_mid rfl 32 (.tmp 16) (.tmp 69) rfl v3.heap.size 0 (mv (ofM 6 k)) rfl rfl (there_zero v3 (ofM 6 k)) (Tryd.sizeMv _) (mv_one _) ?_; generalize hu3 : (v3.alloc _).setCells v3.heap.size 0 (mv (ofM 6 k)).toList = u3) | fail)
    have Ru3 : Hid (u3.rangeAt v3.heap.size 0 (mc (ofM 6 k))) := Hid.in (by rw [← hu3]; exact World.rangeAt_setCells_same _ _ _ _ (by rw [Array.length_toList]; exact there_zero v3 (ofM 6 k)))
    have Gu3 : Hid (Below v3.heap.size v3 u3) := Hid.in (by
      have hg : v3.grownBy u3 (some v3.heap.size) := by rw [← hu3]; exact grown_trans' (grown_of_below (below_alloc _ _) _) (grown_setCells _ _ _ _)
      exact ⟨hg.os, hg.tape, hg.output, hg.size, fun k hk => hg.block k hk (fun e => by cases e; omega)⟩)
    clear hu3
    have Hu3 := Hid.in (Hv3.out.step Gu3.out)
    clear Hv3 Hu2
    go_wp2_with fail
    refine (fbpeek_c u3 q n 4 S3 _ Hu3.out.f 3 (k : Int) 0 (ofM 15 k) true (four_3 hcn h64 hcn rfl)).mono ?_
    rintro r v4 ⟨rfl, hb4⟩
    have Hv4 := Hid.in (Hu3.out.step hb4)
    have B4 := Hid.in hb4
    clear hb4
    go_upto_region 12 with (first | (refine wpList_store_mid rfl 32 (.tmp 18) (.tmp 75) rfl v4.heap.size 0 (mv (ofM 15 k)) rfl rfl (there_zero v4 (ofM 15 k)) (Tryd.sizeMv _) (mv_one _) ?_; generalize hu4 : (v4.alloc _).setCells v4.heap.size 0 (mv (ofM 15 k)).toList = u4) | fail)
    have Ru4 : Hid (u4.rangeAt v4.heap.size 0 (mc (ofM 15 k))) := Hid.in (by rw [← hu4]; exact World.rangeAt_setCells_same _ _ _ _ (by rw [Array.length_toList]; exact there_zero v4 (ofM 15 k)))
    have Gu4 : Hid (Below v4.heap.size v4 u4) := Hid.in (by
      have hg : v4.grownBy u4 (some v4.heap.size) := by rw [← hu4]; exact grown_trans' (grown_of_below (below_alloc _ _) _) (grown_setCells _ _ _ _)
      exact ⟨hg.os, hg.tape, hg.output, hg.size, fun k hk => hg.block k hk (fun e => by cases e; omega)⟩)
    clear hu4
    have Hu4 := Hid.in (Hv4.out.step Gu4.out)
    clear Hv4 Hu3
    have Ra := Hid.in (rangeAt_step Ru1.out (bstep (bstep (bstep (bstep (bstep B2.out (Nat.le_refl _) Gu2.out) (Nat.le_refl _) B3.out) (Nat.le_refl _) Gu3.out) (Nat.le_refl _) B4.out) (Nat.le_refl _) Gu4.out))
    have Rb := Hid.in (rangeAt_step Ru2.out (bstep (bstep (bstep B3.out (Nat.le_refl _) Gu3.out) (Nat.le_refl _) B4.out) (Nat.le_refl _) Gu4.out))
    clear Ru1 Ru2 Ru3 Ru4 Gu1 Gu2 Gu3 Gu4 B1 B2 B3 B4
    have n0 : ∀ n : Kin (fun X => Below u4.heap.size u4 X), n.of.cell? ⟨v1.heap.size, 0, none⟩ = some (.int .i64 2) := fun n => (n.in.cell (p := ⟨v1.heap.size, 0, none⟩) (lt_cell (Ra.out 0 _ rfl))).trans (by have h := Ra.out 0 _ rfl; rw [Nat.zero_add] at h; exact h)
    have n1 : ∀ n : Kin (fun X => Below u4.heap.size u4 X), n.of.cell? ⟨v1.heap.size, 1, none⟩ = some (.int .i64 (k : Int)) := fun n => (n.in.cell (p := ⟨v1.heap.size, 1, none⟩) (lt_cell (Ra.out 1 _ rfl))).trans (by have h := Ra.out 1 _ rfl; rw [Nat.zero_add] at h; exact h)
    have n2 : ∀ n : Kin (fun X => Below u4.heap.size u4 X), n.of.cell? ⟨v1.heap.size, 2, none⟩ = some (.int .i64 0) := fun n => (n.in.cell (p := ⟨v1.heap.size, 2, none⟩) (lt_cell (Ra.out 2 _ rfl))).trans (by have h := Ra.out 2 _ rfl; rw [Nat.zero_add] at h; exact h)
    have n3 : ∀ n : Kin (fun X => Below u4.heap.size u4 X), n.of.cell? ⟨v1.heap.size, 3, none⟩ = some (.int .i64 0) := fun n => (n.in.cell (p := ⟨v1.heap.size, 3, none⟩) (lt_cell (Ra.out 3 _ rfl))).trans (by have h := Ra.out 3 _ rfl; rw [Nat.zero_add] at h; exact h)
    have n4 : ∀ n : Kin (fun X => Below u4.heap.size u4 X), n.of.cell? ⟨v1.heap.size, 4, none⟩ = some (.int .i64 0) := fun n => (n.in.cell (p := ⟨v1.heap.size, 4, none⟩) (lt_cell (Ra.out 4 _ rfl))).trans (by have h := Ra.out 4 _ rfl; rw [Nat.zero_add] at h; exact h)
    have n5 : ∀ n : Kin (fun X => Below u4.heap.size u4 X), n.of.cell? ⟨v1.heap.size, 5, none⟩ = some (.int .i64 0) := fun n => (n.in.cell (p := ⟨v1.heap.size, 5, none⟩) (lt_cell (Ra.out 5 _ rfl))).trans (by have h := Ra.out 5 _ rfl; rw [Nat.zero_add] at h; exact h)
    have n6 : ∀ n : Kin (fun X => Below u4.heap.size u4 X), n.of.cell? ⟨v1.heap.size, 6, none⟩ = some (.int .i64 0) := fun n => (n.in.cell (p := ⟨v1.heap.size, 6, none⟩) (lt_cell (Ra.out 6 _ rfl))).trans (by have h := Ra.out 6 _ rfl; rw [Nat.zero_add] at h; exact h)
    have n7 : ∀ n : Kin (fun X => Below u4.heap.size u4 X), n.of.cell? ⟨v1.heap.size, 7, none⟩ = some (.int .u32 0) := fun n => (n.in.cell (p := ⟨v1.heap.size, 7, none⟩) (lt_cell (Ra.out 7 _ rfl))).trans (by have h := Ra.out 7 _ rfl; rw [Nat.zero_add] at h; exact h)
    have n8 : ∀ n : Kin (fun X => Below u4.heap.size u4 X), n.of.cell? ⟨v1.heap.size, 8, none⟩ = some (.int .u32 0) := fun n => (n.in.cell (p := ⟨v1.heap.size, 8, none⟩) (lt_cell (Ra.out 8 _ rfl))).trans (by have h := Ra.out 8 _ rfl; rw [Nat.zero_add] at h; exact h)
    have n9 : ∀ n : Kin (fun X => Below u4.heap.size u4 X), n.of.cell? ⟨v1.heap.size, 9, none⟩ = some (.int .u32 0) := fun n => (n.in.cell (p := ⟨v1.heap.size, 9, none⟩) (lt_cell (Ra.out 9 _ rfl))).trans (by have h := Ra.out 9 _ rfl; rw [Nat.zero_add] at h; exact h)
    have n10 : ∀ n : Kin (fun X => Below u4.heap.size u4 X), n.of.cell? ⟨v1.heap.size, 10, none⟩ = some (.int .u32 0) := fun n => (n.in.cell (p := ⟨v1.heap.size, 10, none⟩) (lt_cell (Ra.out 10 _ rfl))).trans (by have h := Ra.out 10 _ rfl; rw [Nat.zero_add] at h; exact h)
    have n11 : ∀ n : Kin (fun X => Below u4.heap.size u4 X), n.of.cell? ⟨v1.heap.size, 11, none⟩ = some (.int .u32 0) := fun n => (n.in.cell (p := ⟨v1.heap.size, 11, none⟩) (lt_cell (Ra.out 11 _ rfl))).trans (by have h := Ra.out 11 _ rfl; rw [Nat.zero_add] at h; exact h)
    have n12 : ∀ n : Kin (fun X => Below u4.heap.size u4 X), n.of.cell? ⟨v1.heap.size, 12, none⟩ = some (.bool false) := fun n => (n.in.cell (p := ⟨v1.heap.size, 12, none⟩) (lt_cell (Ra.out 12 _ rfl))).trans (by have h := Ra.out 12 _ rfl; rw [Nat.zero_add] at h; exact h)
    have m0 : ∀ n : Kin (fun X => Below u4.heap.size u4 X), n.of.cell? ⟨v2.heap.size, 0, none⟩ = some (.int .i64 12) := fun n => (n.in.cell (p := ⟨v2.heap.size, 0, none⟩) (lt_cell (Rb.out 0 _ rfl))).trans (by have h := Rb.out 0 _ rfl; rw [Nat.zero_add] at h; exact h)
    have m1 : ∀ n : Kin (fun X => Below u4.heap.size u4 X), n.of.cell? ⟨v2.heap.size, 1, none⟩ = some (.int .i64 (k : Int)) := fun n => (n.in.cell (p := ⟨v2.heap.size, 1, none⟩) (lt_cell (Rb.out 1 _ rfl))).trans (by have h := Rb.out 1 _ rfl; rw [Nat.zero_add] at h; exact h)
    have m2 : ∀ n : Kin (fun X => Below u4.heap.size u4 X), n.of.cell? ⟨v2.heap.size, 2, none⟩ = some (.int .i64 0) := fun n => (n.in.cell (p := ⟨v2.heap.size, 2, none⟩) (lt_cell (Rb.out 2 _ rfl))).trans (by have h := Rb.out 2 _ rfl; rw [Nat.zero_add] at h; exact h)
    have m3 : ∀ n : Kin (fun X => Below u4.heap.size u4 X), n.of.cell? ⟨v2.heap.size, 3, none⟩ = some (.int .i64 0) := fun n => (n.in.cell (p := ⟨v2.heap.size, 3, none⟩) (lt_cell (Rb.out 3 _ rfl))).trans (by have h := Rb.out 3 _ rfl; rw [Nat.zero_add] at h; exact h)
    have m4 : ∀ n : Kin (fun X => Below u4.heap.size u4 X), n.of.cell? ⟨v2.heap.size, 4, none⟩ = some (.int .i64 0) := fun n => (n.in.cell (p := ⟨v2.heap.size, 4, none⟩) (lt_cell (Rb.out 4 _ rfl))).trans (by have h := Rb.out 4 _ rfl; rw [Nat.zero_add] at h; exact h)
    have m5 : ∀ n : Kin (fun X => Below u4.heap.size u4 X), n.of.cell? ⟨v2.heap.size, 5, none⟩ = some (.int .i64 0) := fun n => (n.in.cell (p := ⟨v2.heap.size, 5, none⟩) (lt_cell (Rb.out 5 _ rfl))).trans (by have h := Rb.out 5 _ rfl; rw [Nat.zero_add] at h; exact h)
    have m6 : ∀ n : Kin (fun X => Below u4.heap.size u4 X), n.of.cell? ⟨v2.heap.size, 6, none⟩ = some (.int .i64 0) := fun n => (n.in.cell (p := ⟨v2.heap.size, 6, none⟩) (lt_cell (Rb.out 6 _ rfl))).trans (by have h := Rb.out 6 _ rfl; rw [Nat.zero_add] at h; exact h)
    have m7 : ∀ n : Kin (fun X => Below u4.heap.size u4 X), n.of.cell? ⟨v2.heap.size, 7, none⟩ = some (.int .u32 0) := fun n => (n.in.cell (p := ⟨v2.heap.size, 7, none⟩) (lt_cell (Rb.out 7 _ rfl))).trans (by have h := Rb.out 7 _ rfl; rw [Nat.zero_add] at h; exact h)
    have m8 : ∀ n : Kin (fun X => Below u4.heap.size u4 X), n.of.cell? ⟨v2.heap.size, 8, none⟩ = some (.int .u32 0) := fun n => (n.in.cell (p := ⟨v2.heap.size, 8, none⟩) (lt_cell (Rb.out 8 _ rfl))).trans (by have h := Rb.out 8 _ rfl; rw [Nat.zero_add] at h; exact h)
    have m9 : ∀ n : Kin (fun X => Below u4.heap.size u4 X), n.of.cell? ⟨v2.heap.size, 9, none⟩ = some (.int .u32 0) := fun n => (n.in.cell (p := ⟨v2.heap.size, 9, none⟩) (lt_cell (Rb.out 9 _ rfl))).trans (by have h := Rb.out 9 _ rfl; rw [Nat.zero_add] at h; exact h)
    have m10 : ∀ n : Kin (fun X => Below u4.heap.size u4 X), n.of.cell? ⟨v2.heap.size, 10, none⟩ = some (.int .u32 0) := fun n => (n.in.cell (p := ⟨v2.heap.size, 10, none⟩) (lt_cell (Rb.out 10 _ rfl))).trans (by have h := Rb.out 10 _ rfl; rw [Nat.zero_add] at h; exact h)
    have m11 : ∀ n : Kin (fun X => Below u4.heap.size u4 X), n.of.cell? ⟨v2.heap.size, 11, none⟩ = some (.int .u32 0) := fun n => (n.in.cell (p := ⟨v2.heap.size, 11, none⟩) (lt_cell (Rb.out 11 _ rfl))).trans (by have h := Rb.out 11 _ rfl; rw [Nat.zero_add] at h; exact h)
    have m12 : ∀ n : Kin (fun X => Below u4.heap.size u4 X), n.of.cell? ⟨v2.heap.size, 12, none⟩ = some (.bool false) := fun n => (n.in.cell (p := ⟨v2.heap.size, 12, none⟩) (lt_cell (Rb.out 12 _ rfl))).trans (by have h := Rb.out 12 _ rfl; rw [Nat.zero_add] at h; exact h)
    have HO2 : Hid (∀ n : Kin (fun X => Below u4.heap.size u4 X), Calls Tryd.prog 11 #[.int .i64 2, .int .i64 (k : Int)] n.of fun r w' => r = .returned (.agg #[.int .i64 2, .int .i64 (k : Int), .int .i64 0, .int .i64 0, .int .i64 0, .int .i64 0, .int .i64 0, .int .u32 0, .int .u32 0, .int .u32 0, .int .u32 0, .int .u32 0, .bool false]) ∧ Below n.of.heap.size n.of w') := Hid.in (fun n => fbof_c 2 k n.of)
    have HO12 : Hid (∀ n : Kin (fun X => Below u4.heap.size u4 X), Calls Tryd.prog 11 #[.int .i64 12, .int .i64 (k : Int)] n.of fun r w' => r = .returned (.agg #[.int .i64 12, .int .i64 (k : Int), .int .i64 0, .int .i64 0, .int .i64 0, .int .i64 0, .int .i64 0, .int .u32 0, .int .u32 0, .int .u32 0, .int .u32 0, .int .u32 0, .bool false]) ∧ Below n.of.heap.size n.of w') := Hid.in (fun n => fbof_c 12 k n.of)
    have HAl : Hid (∀ n : Kin (fun X => Below u4.heap.size u4 X), Calls Tryd.prog 13 #[.pointer (some ⟨q, 0, none⟩)] n.of fun r w' => r = .returned (.int .i64 4) ∧ w' = n.of) := Hid.in (fun x => fball_c x.of q n 4 S3 _ (Hu4.out.step x.in).f 4 (by rw [allF_puts (noneF_len n) (four_ok hcn h64), allF_none]; rfl))
    have HRu : Hid (∀ n : Kin (fun X => Below u4.heap.size u4 X), Calls Tryd.prog 3 #[] n.of fun r w' => r = .returned (.bool true) ∧ Below n.of.heap.size n.of w') := Hid.in (fun n => fabricRuns_any _ sa (HE.out.below (bstep Hu4.out.b (Nat.le_refl _) n.in)))
    have hne : ∀ w', (binOp .eql 32 (.agg #[.int .i64 2, .int .i64 (k : Int), .int .i64 0, .int .i64 0, .int .i64 0, .int .i64 0, .int .i64 0, .int .u32 0, .int .u32 0, .int .u32 0, .int .u32 0, .int .u32 0, .bool false]) (.agg #[.int .i64 2, .int .i64 (k : Int), .int .i64 0, .int .i64 0, .int .i64 0, .int .i64 0, .int .i64 0, .int .u32 0, .int .u32 0, .int .u32 0, .int .u32 0, .int .u32 0, .bool false])).run Tryd.prog w' = .ok (.bool true) w' := fun w' => by
      have h := eq_msg (ofM 2 k) (ofM 2 k) w'
      rw [(eqB_iff _ _).2 rfl] at h
      exact h
    have hne2 : ∀ w', (binOp .eql 32 (.agg #[.int .i64 12, .int .i64 (k : Int), .int .i64 0, .int .i64 0, .int .i64 0, .int .i64 0, .int .i64 0, .int .u32 0, .int .u32 0, .int .u32 0, .int .u32 0, .int .u32 0, .bool false]) (.agg #[.int .i64 12, .int .i64 (k : Int), .int .i64 0, .int .i64 0, .int .i64 0, .int .i64 0, .int .i64 0, .int .u32 0, .int .u32 0, .int .u32 0, .int .u32 0, .int .u32 0, .bool false])).run Tryd.prog w' = .ok (.bool true) w' := fun w' => by
      have h := eq_msg (ofM 12 k) (ofM 12 k) w'
      rw [(eqB_iff _ _).2 rfl] at h
      exact h
    refine wp_region_kin (C := fun X => Below u4.heap.size u4 X) (by kernel_rfl) (by kernel_rfl) (Below.refl _ _).drew (fun hne' => ?_)
    repeat (go_big_quiet_step (first | (go_at_call 11; first | (with_reducible exact Kin.below (Nat.le_refl _) _ (HO2.out _)) | (with_reducible exact Kin.below (Nat.le_refl _) _ (HO12.out _))) | (go_at_call 13; exact Kin.same _ (HAl.out _)) | (go_at_call 3; exact Kin.below (Nat.le_refl _) _ (HRu.out _))))
    refine wpQuiet_nil ?_
    rintro w13 ⟨x, rfl⟩
    have HT := Hid.in x.in
    clear hne hne2 n0 n1 n2 n3 n4 n5 n6 n7 n8 n9 n10 n11 n12 m0 m1 m2 m3 m4 m5 m6 m7 m8 m9 m10 m11 m12
    go_wp2
    go_ret
    exact ⟨rfl, bstep Hu4.out.b (Nat.le_refl _) HT.out⟩
  · as_aux_lemma =>
      go_wp2_with fail
      refine (fbpeek_c u2 q n 4 S3 _ Hu2.out.f 1 (k : Int) 0 zero13 false (four_1n hcn h64 hkn hkc)).mono ?_
      rintro r v3 ⟨rfl, hb3⟩
      have Hv3 := Hid.in (Hu2.out.step hb3)
      have B3 := Hid.in hb3
      clear hb3
      go_upto_region 11 with (first | (refine wpList_store_mid rfl 32 (.tmp 16) (.tmp 69) rfl v3.heap.size 0 (mv zero13) rfl rfl (there_zero v3 zero13) (Tryd.sizeMv _) (mv_one _) ?_; generalize hu3 : (v3.alloc _).setCells v3.heap.size 0 (mv zero13).toList = u3) | fail)
      have Ru3 : Hid (u3.rangeAt v3.heap.size 0 (mc zero13)) := Hid.in (by rw [← hu3]; exact World.rangeAt_setCells_same _ _ _ _ (by rw [Array.length_toList]; exact there_zero v3 zero13))
      have Gu3 : Hid (Below v3.heap.size v3 u3) := Hid.in (by
        have hg : v3.grownBy u3 (some v3.heap.size) := by rw [← hu3]; exact grown_trans' (grown_of_below (below_alloc _ _) _) (grown_setCells _ _ _ _)
        exact ⟨hg.os, hg.tape, hg.output, hg.size, fun k hk => hg.block k hk (fun e => by cases e; omega)⟩)
      clear hu3
      have Hu3 := Hid.in (Hv3.out.step Gu3.out)
      clear Hv3 Hu2
      go_wp2_with fail
      refine (fbpeek_c u3 q n 4 S3 _ Hu3.out.f 3 (k : Int) 0 zero13 false (four_3n hcn h64 hkn hkc)).mono ?_
      rintro r v4 ⟨rfl, hb4⟩
      have Hv4 := Hid.in (Hu3.out.step hb4)
      have B4 := Hid.in hb4
      clear hb4
      go_upto_region 12 with (first | (refine wpList_store_mid rfl 32 (.tmp 18) (.tmp 75) rfl v4.heap.size 0 (mv zero13) rfl rfl (there_zero v4 zero13) (Tryd.sizeMv _) (mv_one _) ?_; generalize hu4 : (v4.alloc _).setCells v4.heap.size 0 (mv zero13).toList = u4) | fail)
      have Ru4 : Hid (u4.rangeAt v4.heap.size 0 (mc zero13)) := Hid.in (by rw [← hu4]; exact World.rangeAt_setCells_same _ _ _ _ (by rw [Array.length_toList]; exact there_zero v4 zero13))
      have Gu4 : Hid (Below v4.heap.size v4 u4) := Hid.in (by
        have hg : v4.grownBy u4 (some v4.heap.size) := by rw [← hu4]; exact grown_trans' (grown_of_below (below_alloc _ _) _) (grown_setCells _ _ _ _)
        exact ⟨hg.os, hg.tape, hg.output, hg.size, fun k hk => hg.block k hk (fun e => by cases e; omega)⟩)
      clear hu4
      have Hu4 := Hid.in (Hv4.out.step Gu4.out)
      clear Hv4 Hu3
      have Ra := Hid.in (rangeAt_step Ru1.out (bstep (bstep (bstep (bstep (bstep B2.out (Nat.le_refl _) Gu2.out) (Nat.le_refl _) B3.out) (Nat.le_refl _) Gu3.out) (Nat.le_refl _) B4.out) (Nat.le_refl _) Gu4.out))
      have Rb := Hid.in (rangeAt_step Ru2.out (bstep (bstep (bstep B3.out (Nat.le_refl _) Gu3.out) (Nat.le_refl _) B4.out) (Nat.le_refl _) Gu4.out))
      clear Ru1 Ru2 Ru3 Ru4 Gu1 Gu2 Gu3 Gu4 B1 B2 B3 B4
      have n0 : ∀ n : Kin (fun X => Below u4.heap.size u4 X), n.of.cell? ⟨v1.heap.size, 0, none⟩ = some (.int .i64 2) := fun n => (n.in.cell (p := ⟨v1.heap.size, 0, none⟩) (lt_cell (Ra.out 0 _ rfl))).trans (by have h := Ra.out 0 _ rfl; rw [Nat.zero_add] at h; exact h)
      have n1 : ∀ n : Kin (fun X => Below u4.heap.size u4 X), n.of.cell? ⟨v1.heap.size, 1, none⟩ = some (.int .i64 (c : Int)) := fun n => (n.in.cell (p := ⟨v1.heap.size, 1, none⟩) (lt_cell (Ra.out 1 _ rfl))).trans (by have h := Ra.out 1 _ rfl; rw [Nat.zero_add] at h; exact h)
      have n2 : ∀ n : Kin (fun X => Below u4.heap.size u4 X), n.of.cell? ⟨v1.heap.size, 2, none⟩ = some (.int .i64 0) := fun n => (n.in.cell (p := ⟨v1.heap.size, 2, none⟩) (lt_cell (Ra.out 2 _ rfl))).trans (by have h := Ra.out 2 _ rfl; rw [Nat.zero_add] at h; exact h)
      have n3 : ∀ n : Kin (fun X => Below u4.heap.size u4 X), n.of.cell? ⟨v1.heap.size, 3, none⟩ = some (.int .i64 0) := fun n => (n.in.cell (p := ⟨v1.heap.size, 3, none⟩) (lt_cell (Ra.out 3 _ rfl))).trans (by have h := Ra.out 3 _ rfl; rw [Nat.zero_add] at h; exact h)
      have n4 : ∀ n : Kin (fun X => Below u4.heap.size u4 X), n.of.cell? ⟨v1.heap.size, 4, none⟩ = some (.int .i64 0) := fun n => (n.in.cell (p := ⟨v1.heap.size, 4, none⟩) (lt_cell (Ra.out 4 _ rfl))).trans (by have h := Ra.out 4 _ rfl; rw [Nat.zero_add] at h; exact h)
      have n5 : ∀ n : Kin (fun X => Below u4.heap.size u4 X), n.of.cell? ⟨v1.heap.size, 5, none⟩ = some (.int .i64 0) := fun n => (n.in.cell (p := ⟨v1.heap.size, 5, none⟩) (lt_cell (Ra.out 5 _ rfl))).trans (by have h := Ra.out 5 _ rfl; rw [Nat.zero_add] at h; exact h)
      have n6 : ∀ n : Kin (fun X => Below u4.heap.size u4 X), n.of.cell? ⟨v1.heap.size, 6, none⟩ = some (.int .i64 0) := fun n => (n.in.cell (p := ⟨v1.heap.size, 6, none⟩) (lt_cell (Ra.out 6 _ rfl))).trans (by have h := Ra.out 6 _ rfl; rw [Nat.zero_add] at h; exact h)
      have n7 : ∀ n : Kin (fun X => Below u4.heap.size u4 X), n.of.cell? ⟨v1.heap.size, 7, none⟩ = some (.int .u32 0) := fun n => (n.in.cell (p := ⟨v1.heap.size, 7, none⟩) (lt_cell (Ra.out 7 _ rfl))).trans (by have h := Ra.out 7 _ rfl; rw [Nat.zero_add] at h; exact h)
      have n8 : ∀ n : Kin (fun X => Below u4.heap.size u4 X), n.of.cell? ⟨v1.heap.size, 8, none⟩ = some (.int .u32 0) := fun n => (n.in.cell (p := ⟨v1.heap.size, 8, none⟩) (lt_cell (Ra.out 8 _ rfl))).trans (by have h := Ra.out 8 _ rfl; rw [Nat.zero_add] at h; exact h)
      have n9 : ∀ n : Kin (fun X => Below u4.heap.size u4 X), n.of.cell? ⟨v1.heap.size, 9, none⟩ = some (.int .u32 0) := fun n => (n.in.cell (p := ⟨v1.heap.size, 9, none⟩) (lt_cell (Ra.out 9 _ rfl))).trans (by have h := Ra.out 9 _ rfl; rw [Nat.zero_add] at h; exact h)
      have n10 : ∀ n : Kin (fun X => Below u4.heap.size u4 X), n.of.cell? ⟨v1.heap.size, 10, none⟩ = some (.int .u32 0) := fun n => (n.in.cell (p := ⟨v1.heap.size, 10, none⟩) (lt_cell (Ra.out 10 _ rfl))).trans (by have h := Ra.out 10 _ rfl; rw [Nat.zero_add] at h; exact h)
      have n11 : ∀ n : Kin (fun X => Below u4.heap.size u4 X), n.of.cell? ⟨v1.heap.size, 11, none⟩ = some (.int .u32 0) := fun n => (n.in.cell (p := ⟨v1.heap.size, 11, none⟩) (lt_cell (Ra.out 11 _ rfl))).trans (by have h := Ra.out 11 _ rfl; rw [Nat.zero_add] at h; exact h)
      have n12 : ∀ n : Kin (fun X => Below u4.heap.size u4 X), n.of.cell? ⟨v1.heap.size, 12, none⟩ = some (.bool false) := fun n => (n.in.cell (p := ⟨v1.heap.size, 12, none⟩) (lt_cell (Ra.out 12 _ rfl))).trans (by have h := Ra.out 12 _ rfl; rw [Nat.zero_add] at h; exact h)
      have m0 : ∀ n : Kin (fun X => Below u4.heap.size u4 X), n.of.cell? ⟨v2.heap.size, 0, none⟩ = some (.int .i64 12) := fun n => (n.in.cell (p := ⟨v2.heap.size, 0, none⟩) (lt_cell (Rb.out 0 _ rfl))).trans (by have h := Rb.out 0 _ rfl; rw [Nat.zero_add] at h; exact h)
      have m1 : ∀ n : Kin (fun X => Below u4.heap.size u4 X), n.of.cell? ⟨v2.heap.size, 1, none⟩ = some (.int .i64 (c : Int)) := fun n => (n.in.cell (p := ⟨v2.heap.size, 1, none⟩) (lt_cell (Rb.out 1 _ rfl))).trans (by have h := Rb.out 1 _ rfl; rw [Nat.zero_add] at h; exact h)
      have m2 : ∀ n : Kin (fun X => Below u4.heap.size u4 X), n.of.cell? ⟨v2.heap.size, 2, none⟩ = some (.int .i64 0) := fun n => (n.in.cell (p := ⟨v2.heap.size, 2, none⟩) (lt_cell (Rb.out 2 _ rfl))).trans (by have h := Rb.out 2 _ rfl; rw [Nat.zero_add] at h; exact h)
      have m3 : ∀ n : Kin (fun X => Below u4.heap.size u4 X), n.of.cell? ⟨v2.heap.size, 3, none⟩ = some (.int .i64 0) := fun n => (n.in.cell (p := ⟨v2.heap.size, 3, none⟩) (lt_cell (Rb.out 3 _ rfl))).trans (by have h := Rb.out 3 _ rfl; rw [Nat.zero_add] at h; exact h)
      have m4 : ∀ n : Kin (fun X => Below u4.heap.size u4 X), n.of.cell? ⟨v2.heap.size, 4, none⟩ = some (.int .i64 0) := fun n => (n.in.cell (p := ⟨v2.heap.size, 4, none⟩) (lt_cell (Rb.out 4 _ rfl))).trans (by have h := Rb.out 4 _ rfl; rw [Nat.zero_add] at h; exact h)
      have m5 : ∀ n : Kin (fun X => Below u4.heap.size u4 X), n.of.cell? ⟨v2.heap.size, 5, none⟩ = some (.int .i64 0) := fun n => (n.in.cell (p := ⟨v2.heap.size, 5, none⟩) (lt_cell (Rb.out 5 _ rfl))).trans (by have h := Rb.out 5 _ rfl; rw [Nat.zero_add] at h; exact h)
      have m6 : ∀ n : Kin (fun X => Below u4.heap.size u4 X), n.of.cell? ⟨v2.heap.size, 6, none⟩ = some (.int .i64 0) := fun n => (n.in.cell (p := ⟨v2.heap.size, 6, none⟩) (lt_cell (Rb.out 6 _ rfl))).trans (by have h := Rb.out 6 _ rfl; rw [Nat.zero_add] at h; exact h)
      have m7 : ∀ n : Kin (fun X => Below u4.heap.size u4 X), n.of.cell? ⟨v2.heap.size, 7, none⟩ = some (.int .u32 0) := fun n => (n.in.cell (p := ⟨v2.heap.size, 7, none⟩) (lt_cell (Rb.out 7 _ rfl))).trans (by have h := Rb.out 7 _ rfl; rw [Nat.zero_add] at h; exact h)
      have m8 : ∀ n : Kin (fun X => Below u4.heap.size u4 X), n.of.cell? ⟨v2.heap.size, 8, none⟩ = some (.int .u32 0) := fun n => (n.in.cell (p := ⟨v2.heap.size, 8, none⟩) (lt_cell (Rb.out 8 _ rfl))).trans (by have h := Rb.out 8 _ rfl; rw [Nat.zero_add] at h; exact h)
      have m9 : ∀ n : Kin (fun X => Below u4.heap.size u4 X), n.of.cell? ⟨v2.heap.size, 9, none⟩ = some (.int .u32 0) := fun n => (n.in.cell (p := ⟨v2.heap.size, 9, none⟩) (lt_cell (Rb.out 9 _ rfl))).trans (by have h := Rb.out 9 _ rfl; rw [Nat.zero_add] at h; exact h)
      have m10 : ∀ n : Kin (fun X => Below u4.heap.size u4 X), n.of.cell? ⟨v2.heap.size, 10, none⟩ = some (.int .u32 0) := fun n => (n.in.cell (p := ⟨v2.heap.size, 10, none⟩) (lt_cell (Rb.out 10 _ rfl))).trans (by have h := Rb.out 10 _ rfl; rw [Nat.zero_add] at h; exact h)
      have m11 : ∀ n : Kin (fun X => Below u4.heap.size u4 X), n.of.cell? ⟨v2.heap.size, 11, none⟩ = some (.int .u32 0) := fun n => (n.in.cell (p := ⟨v2.heap.size, 11, none⟩) (lt_cell (Rb.out 11 _ rfl))).trans (by have h := Rb.out 11 _ rfl; rw [Nat.zero_add] at h; exact h)
      have m12 : ∀ n : Kin (fun X => Below u4.heap.size u4 X), n.of.cell? ⟨v2.heap.size, 12, none⟩ = some (.bool false) := fun n => (n.in.cell (p := ⟨v2.heap.size, 12, none⟩) (lt_cell (Rb.out 12 _ rfl))).trans (by have h := Rb.out 12 _ rfl; rw [Nat.zero_add] at h; exact h)
      have HO2 : Hid (∀ n : Kin (fun X => Below u4.heap.size u4 X), Calls Tryd.prog 11 #[.int .i64 2, .int .i64 (c : Int)] n.of fun r w' => r = .returned (.agg #[.int .i64 2, .int .i64 (c : Int), .int .i64 0, .int .i64 0, .int .i64 0, .int .i64 0, .int .i64 0, .int .u32 0, .int .u32 0, .int .u32 0, .int .u32 0, .int .u32 0, .bool false]) ∧ Below n.of.heap.size n.of w') := Hid.in (fun n => fbof_c 2 c n.of)
      have HO12 : Hid (∀ n : Kin (fun X => Below u4.heap.size u4 X), Calls Tryd.prog 11 #[.int .i64 12, .int .i64 (c : Int)] n.of fun r w' => r = .returned (.agg #[.int .i64 12, .int .i64 (c : Int), .int .i64 0, .int .i64 0, .int .i64 0, .int .i64 0, .int .i64 0, .int .u32 0, .int .u32 0, .int .u32 0, .int .u32 0, .int .u32 0, .bool false]) ∧ Below n.of.heap.size n.of w') := Hid.in (fun n => fbof_c 12 c n.of)
      have HAl : Hid (∀ n : Kin (fun X => Below u4.heap.size u4 X), Calls Tryd.prog 13 #[.pointer (some ⟨q, 0, none⟩)] n.of fun r w' => r = .returned (.int .i64 4) ∧ w' = n.of) := Hid.in (fun x => fball_c x.of q n 4 S3 _ (Hu4.out.step x.in).f 4 (by rw [allF_puts (noneF_len n) (four_ok hcn h64), allF_none]; rfl))
      have HRu : Hid (∀ n : Kin (fun X => Below u4.heap.size u4 X), Calls Tryd.prog 3 #[] n.of fun r w' => r = .returned (.bool true) ∧ Below n.of.heap.size n.of w') := Hid.in (fun n => fabricRuns_any _ sa (HE.out.below (bstep Hu4.out.b (Nat.le_refl _) n.in)))
      have hne : ∀ w', (binOp .eql 32 (.agg #[.int .i64 2, .int .i64 (c : Int), .int .i64 0, .int .i64 0, .int .i64 0, .int .i64 0, .int .i64 0, .int .u32 0, .int .u32 0, .int .u32 0, .int .u32 0, .int .u32 0, .bool false]) (.agg #[.int .i64 2, .int .i64 (c : Int), .int .i64 0, .int .i64 0, .int .i64 0, .int .i64 0, .int .i64 0, .int .u32 0, .int .u32 0, .int .u32 0, .int .u32 0, .int .u32 0, .bool false])).run Tryd.prog w' = .ok (.bool true) w' := fun w' => by
        have h := eq_msg (ofM 2 c) (ofM 2 c) w'
        rw [(eqB_iff _ _).2 rfl] at h
        exact h
      have hne2 : ∀ w', (binOp .eql 32 (.agg #[.int .i64 12, .int .i64 (c : Int), .int .i64 0, .int .i64 0, .int .i64 0, .int .i64 0, .int .i64 0, .int .u32 0, .int .u32 0, .int .u32 0, .int .u32 0, .int .u32 0, .bool false]) (.agg #[.int .i64 12, .int .i64 (c : Int), .int .i64 0, .int .i64 0, .int .i64 0, .int .i64 0, .int .i64 0, .int .u32 0, .int .u32 0, .int .u32 0, .int .u32 0, .int .u32 0, .bool false])).run Tryd.prog w' = .ok (.bool true) w' := fun w' => by
        have h := eq_msg (ofM 12 c) (ofM 12 c) w'
        rw [(eqB_iff _ _).2 rfl] at h
        exact h
      have hkf : ((k : Int) == (c : Int)) = false := by simp; omega
      refine wp_region_kin (C := fun X => Below u4.heap.size u4 X) (by kernel_rfl) (by kernel_rfl) (Below.refl _ _).drew (fun hne' => ?_)
      repeat (go_big_quiet_step (first | (go_at_call 11; first | (with_reducible exact Kin.below (Nat.le_refl _) _ (HO2.out _)) | (with_reducible exact Kin.below (Nat.le_refl _) _ (HO12.out _))) | (go_at_call 13; exact Kin.same _ (HAl.out _)) | (go_at_call 3; exact Kin.below (Nat.le_refl _) _ (HRu.out _))))
      refine wpQuiet_nil ?_
      rintro w13 ⟨x, rfl⟩
      have HT := Hid.in x.in
      clear hne hne2 n0 n1 n2 n3 n4 n5 n6 n7 n8 n9 n10 n11 n12 m0 m1 m2 m3 m4 m5 m6 m7 m8 m9 m10 m11 m12
      go_wp2
      go_ret
      exact ⟨rfl, bstep Hu4.out.b (Nat.le_refl _) HT.out⟩

end Go.Proofs.YtmgmjklnibmacaaDoor

/- DERIVED of the program: Twin of the project's model by its contract. Own work. -/
import Derived.Test.YtncgjclehplfeaaDoorTsK
import Derived.Laws.ResultCell
import Derived.Laws.Cover3
namespace Go.Proofs.YtncgjclehplfeaaDoor
open Go.RowKit Go.Extern.Stop Go.Stop Go.Extern

theorem eq_nil {P : Program} (t e : TypeId) (h : P.underlying t = some (.slice e)) (a : Option Addr) (l c : Nat) (w : World) : (binOp .eql t (.slice a l c) (.slice none 0 0)).run P w = .ok (.bool a.isNone) w := by
  have h2 := run_equal_slice_nil w t e a l c h
  simp only [binOp]
  simp [h2]
theorem drew_size (w : World) : w.drew.heap.size = w.heap.size := rfl
theorem tc_one (T : List Nat) : ∀ r ∈ T.map tc, ∀ v ∈ r, v.oneCell' = true := by
  intro r hr v hv
  obtain ⟨x, _, rfl⟩ := List.mem_map.1 hr
  simp only [tc, List.mem_cons, List.not_mem_nil, or_false] at hv
  subst hv
  rfl
set_option maxRecDepth 20000 in
theorem cloneS_c (w : World) (B : Nat) (ao : Option Addr) (n cap : Nat) (L : List (Int × Int)) (hO : OwnA 113 2 w B ao n cap (L.map wc)) (hn : n ≤ 100000) :
    Calls Tryd.prog 52 #[.slice ao n cap] w fun r w' => ∃ ao' cap', r = .returned (.slice ao' n cap') ∧ OwnA 113 2 w' w.heap.size ao' n cap' (L.map wc) ∧ Below w.heap.size w w' := by
  have HL : Hid (n = (L.map wc).length) := Hid.in hO.len.symm
  have HR := Hid.in (hO.rows (wcs_one L))
  cases ao with
  | none =>
    have h0 := hO.nil0 rfl
    have hle := hO.le
    subst h0
    obtain rfl : n = 0 := by omega
    have HLL : Hid (L.map wc = []) := Hid.in (List.length_eq_zero_iff.1 HL.out.symm)
    have hq := eq_nil (P := Tryd.prog) 86 _ Tryd.underlying86 none 0 0
    clear hO hle hn
    go_enter Tryd.func52, Tryd.ntmps52
    go_wp2
    go_ret
    exact ⟨none, 0, rfl, by rw [HLL.out]; exact OwnA.nil _ _ _ _, Below.refl _ _⟩
  | some ad =>
    obtain ⟨g, o, cur, rfl, _⟩ := hO.at_ ad rfl
    have hn8 : 0 + n ≤ 1000000 := by omega
    have hq := eq_nil (P := Tryd.prog) 86 _ Tryd.underlying86 (some ⟨g, o, none⟩) n cap
    clear hO
    go_enter Tryd.func52, Tryd.ntmps52
    go_wp2_with (first
      | (at_builtin; refine wpList_concatA rfl 86 113 2 16 _ (.tmp 5) (.tmp 6) rfl Tryd.underlying86 Tryd.infoStore rfl (by decide) (by decide) w.heap.size (some ⟨w.heap.size, 0, none⟩) (some ⟨g, o, none⟩) 0 0 n cap [] (L.map wc) rfl (OwnA.empty _ _ _ _ (Nat.le_refl _)) rfl HL.out (HR.out.step (below_alloc _ _)) (below_alloc _ _).size hn8 ?_; intro ao3 cap3 w3 HO3 HG3 _ _)
      | fail)
    go_ret
    refine ⟨ao3, cap3, rfl, ?_, (below_alloc w _).grown HG3.out (below_alloc _ _).size (fun k hk => by cases hk; exact Nat.le_refl _)⟩
    have := HO3.out
    rwa [Nat.zero_add, List.nil_append] at this
set_option maxRecDepth 20000 in
theorem cloneI_c (w : World) (B : Nat) (ao : Option Addr) (n cap : Nat) (T : List Nat) (hO : OwnA 3 1 w B ao n cap (T.map tc)) (hn : n ≤ 100000) :
    Calls Tryd.prog 53 #[.slice ao n cap] w fun r w' => ∃ ao' cap', r = .returned (.slice ao' n cap') ∧ OwnA 3 1 w' w.heap.size ao' n cap' (T.map tc) ∧ Below w.heap.size w w' := by
  have HL : Hid (n = (T.map tc).length) := Hid.in hO.len.symm
  have HR := Hid.in (hO.rows (tc_one T))
  cases ao with
  | none =>
    have h0 := hO.nil0 rfl
    have hle := hO.le
    subst h0
    obtain rfl : n = 0 := by omega
    have HLL : Hid (T.map tc = []) := Hid.in (List.length_eq_zero_iff.1 HL.out.symm)
    have hq := eq_nil (P := Tryd.prog) 66 _ Tryd.underlying66 none 0 0
    clear hO hle hn
    go_enter Tryd.func53, Tryd.ntmps53
    go_wp2
    go_ret
    exact ⟨none, 0, rfl, by rw [HLL.out]; exact OwnA.nil _ _ _ _, Below.refl _ _⟩
  | some ad =>
    obtain ⟨g, o, cur, rfl, _⟩ := hO.at_ ad rfl
    have hn8 : 0 + n ≤ 1000000 := by omega
    have hq := eq_nil (P := Tryd.prog) 66 _ Tryd.underlying66 (some ⟨g, o, none⟩) n cap
    clear hO
    go_enter Tryd.func53, Tryd.ntmps53
    go_wp2_with (first
      | (at_builtin; refine wpList_concatA rfl 66 3 1 8 _ (.tmp 5) (.tmp 6) rfl Tryd.underlying66 Tryd.infoI64 rfl (by decide) (by decide) w.heap.size (some ⟨w.heap.size, 0, none⟩) (some ⟨g, o, none⟩) 0 0 n cap [] (T.map tc) rfl (OwnA.empty _ _ _ _ (Nat.le_refl _)) rfl HL.out (HR.out.step (below_alloc _ _)) (below_alloc _ _).size hn8 ?_; intro ao3 cap3 w3 HO3 HG3 _ _)
      | fail)
    go_ret
    refine ⟨ao3, cap3, rfl, ?_, (below_alloc w _).grown HG3.out (below_alloc _ _).size (fun k hk => by cases hk; exact Nat.le_refl _)⟩
    have := HO3.out
    rwa [Nat.zero_add, List.nil_append] at this

/-- A core's twin. -/
structure TwinOf (w w' : World) (c c' : Cr) : Prop where
  L : c'.L = c.L
  g : c'.g = c.g
  T : c'.T = c.T
  r : CrAt shP w' c'
  s : ∀ k ∈ c'.blks, w.heap.size ≤ k
  n : c'.blks.Nodup
set_option maxHeartbeats 3200000 in
set_option maxRecDepth 20000 in
theorem btwin_c (w : World) (bb o : Nat) (c : Cr) (h : CoreAt w bb o c) (hL : c.L.length ≤ 100000) (hT : c.T.length ≤ 100000) :
    Calls Tryd.prog 37 #[.pointer (some ⟨bb, o, none⟩)] w fun r w' => ∃ c', r = .returned (.agg #[.slice c'.ao c'.L.length c'.cap, .int .i64 (c'.g : Int), .slice c'.al c'.T.length c'.lcap]) ∧ TwinOf w w' c c' ∧ Below w.heap.size w w' := by
  have c0 := h.c0
  have c1 := h.c1
  have c2 := h.c2
  have HS0 := Hid.in h.r.s
  have HT0 := Hid.in h.r.l
  have hbz := lt_cell c0
  obtain ⟨ao, cap, L, g, al, lcap, T⟩ := c
  simp only [] at c0 c1 c2 HS0 HT0 hL hT
  obtain ⟨n, hn⟩ : ∃ n, L.length = n := ⟨_, rfl⟩
  obtain ⟨nT, hnT⟩ : ∃ n, T.length = n := ⟨_, rfl⟩
  rw [hn] at c0 HS0 hL
  rw [hnT] at c2 HT0 hT
  have HN := Hid.in hn
  have HNT := Hid.in hnT
  clear h hn hnT
  go_enter Tryd.func37, Tryd.ntmps37
  go_upto_region 1 with fail
  generalize hwx : w.alloc _ = wx
  have HBX : Hid (Below w.heap.size w wx) := Hid.in (by rw [← hwx]; exact below_alloc _ _)
  have hrb : wx.heap[w.heap.size]? = some (.cells #[.slice none 0 0, .int .i64 0, .slice none 0 0] 88 (0, 0)) := by rw [← hwx]; exact heap_alloc_new _ _
  have HRB := Hid.in hrb
  have hwl : w.heap.size < wx.heap.size := blk_lt hrb
  clear hwx hrb
  have HF : Hid (∀ W, Below wx.heap.size wx W → W.cell? ⟨bb, o, none⟩ = some (.slice ao n cap) ∧ W.cell? ⟨bb, o + 1, none⟩ = some (.int .i64 (g : Int)) ∧ W.cell? ⟨bb, o + 2, none⟩ = some (.slice al nT lcap)) := Hid.in (fun W hW => by
    have hb := bstep HBX.out (Nat.le_refl _) hW
    exact ⟨(hb.cell (p := ⟨bb, o, none⟩) hbz).trans c0, (hb.cell (p := ⟨bb, o + 1, none⟩) hbz).trans c1, (hb.cell (p := ⟨bb, o + 2, none⟩) hbz).trans c2⟩)
  clear c0 c1 c2
  refine wp_region_but (fun W => Below wx.heap.size wx W) 15 (by kernel_rfl) ?_
  have HS : Hid (Below wx.heap.size wx wx.drew) := Hid.in (Below.refl _ _).drew
  refine wpBut_take (i := 0) (v := ?_) rfl (by kernel_rfl) (by kernel_rfl) (by exact fun _ _ _ h => h) HS.out (Or.inl ⟨by rfl, ?_⟩) ?_
  case refine_2 => (intro W hSw; obtain ⟨s1, s2, s3⟩ := HF.out W hSw; go_simp; try with_reducible rfl)
  simp only [Act.put, List.setIfInBounds_toArray, List.set_cons_zero, List.set_cons_succ]
  refine wpBut_take (i := 1) (v := ?_) rfl (by kernel_rfl) (by kernel_rfl) (by exact fun _ _ _ h => h) HS.out (Or.inl ⟨by rfl, ?_⟩) ?_
  case refine_2 => (intro W hSw; obtain ⟨s1, s2, s3⟩ := HF.out W hSw; go_simp; try with_reducible rfl)
  simp only [Act.put, List.setIfInBounds_toArray, List.set_cons_zero, List.set_cons_succ]
  refine wpBut_take (i := 2) (v := ?_) rfl (by kernel_rfl) (by kernel_rfl) (by exact fun _ _ _ h => h) HS.out (Or.inl ⟨by rfl, ?_⟩) ?_
  case refine_2 => (intro W hSw; obtain ⟨s1, s2, s3⟩ := HF.out W hSw; go_simp; try with_reducible rfl)
  simp only [Act.put, List.setIfInBounds_toArray, List.set_cons_zero, List.set_cons_succ]
  refine wpBut_take (i := 3) (v := ?_) rfl (by kernel_rfl) (by kernel_rfl) (by exact fun _ _ _ h => h) HS.out (Or.inl ⟨by rfl, ?_⟩) ?_
  case refine_2 => (intro W hSw; obtain ⟨s1, s2, s3⟩ := HF.out W hSw; go_simp; try with_reducible rfl)
  simp only [Act.put, List.setIfInBounds_toArray, List.set_cons_zero, List.set_cons_succ]
  refine wpBut_take (i := 5) (v := ?_) rfl (by kernel_rfl) (by kernel_rfl) (by exact fun _ _ _ h => h) HS.out (Or.inl ⟨by rfl, ?_⟩) ?_
  case refine_2 => (intro W hSw; obtain ⟨s1, s2, s3⟩ := HF.out W hSw; go_simp; try with_reducible rfl)
  simp only [Act.put, List.setIfInBounds_toArray, List.set_cons_zero, List.set_cons_succ]
  refine wpBut_take (i := 6) (v := ?_) rfl (by kernel_rfl) (by kernel_rfl) (by exact fun _ _ _ h => h) HS.out (Or.inl ⟨by rfl, ?_⟩) ?_
  case refine_2 => (intro W hSw; obtain ⟨s1, s2, s3⟩ := HF.out W hSw; go_simp; try with_reducible rfl)
  simp only [Act.put, List.setIfInBounds_toArray, List.set_cons_zero, List.set_cons_succ]
  refine wpBut_take (i := 7) (v := ?_) rfl (by kernel_rfl) (by kernel_rfl) (by exact fun _ _ _ h => h) HS.out (Or.inl ⟨by rfl, ?_⟩) ?_
  case refine_2 => (intro W hSw; obtain ⟨s1, s2, s3⟩ := HF.out W hSw; go_simp; try with_reducible rfl)
  simp only [Act.put, List.setIfInBounds_toArray, List.set_cons_zero, List.set_cons_succ]
  refine wpBut_take (i := 8) (v := ?_) rfl (by kernel_rfl) (by kernel_rfl) (by exact fun _ _ _ h => h) HS.out (Or.inl ⟨by rfl, ?_⟩) ?_
  case refine_2 => (intro W hSw; obtain ⟨s1, s2, s3⟩ := HF.out W hSw; go_simp; try with_reducible rfl)
  simp only [Act.put, List.setIfInBounds_toArray, List.set_cons_zero, List.set_cons_succ]
  refine wpBut_take (i := 9) (v := ?_) rfl (by kernel_rfl) (by kernel_rfl) (by exact fun _ _ _ h => h) HS.out (Or.inl ⟨by rfl, ?_⟩) ?_
  case refine_2 => (intro W hSw; obtain ⟨s1, s2, s3⟩ := HF.out W hSw; go_simp; try with_reducible rfl)
  simp only [Act.put, List.setIfInBounds_toArray, List.set_cons_zero, List.set_cons_succ]
  refine wpBut_take (i := 10) (v := ?_) rfl (by kernel_rfl) (by kernel_rfl) (by exact fun _ _ _ h => h) HS.out (Or.inl ⟨by rfl, ?_⟩) ?_
  case refine_2 => (intro W hSw; obtain ⟨s1, s2, s3⟩ := HF.out W hSw; go_simp; try with_reducible rfl)
  simp only [Act.put, List.setIfInBounds_toArray, List.set_cons_zero, List.set_cons_succ]
  refine wpBut_take (i := 11) (v := ?_) rfl (by kernel_rfl) (by kernel_rfl) (by exact fun _ _ _ h => h) HS.out (Or.inl ⟨by rfl, ?_⟩) ?_
  case refine_2 => (intro W hSw; obtain ⟨s1, s2, s3⟩ := HF.out W hSw; go_simp; try with_reducible rfl)
  simp only [Act.put, List.setIfInBounds_toArray, List.set_cons_zero, List.set_cons_succ]
  refine wpBut_take (i := 12) (v := ?_) rfl (by kernel_rfl) (by kernel_rfl) (by exact fun _ _ _ h => h) HS.out (Or.inl ⟨by rfl, ?_⟩) ?_
  case refine_2 => (intro W hSw; obtain ⟨s1, s2, s3⟩ := HF.out W hSw; go_simp; try with_reducible rfl)
  simp only [Act.put, List.setIfInBounds_toArray, List.set_cons_zero, List.set_cons_succ]
  refine wpBut_one (i := 4) rfl (by kernel_rfl) (fun K HK => ?_)
  go_simp
  refine (cloneS_c wx.drew 0 ao n cap L (HS0.out.step (bstep HBX.out (Nat.le_refl _) (Below.refl _ _).drew)) hL).mono ?_
  rintro r w2 ⟨ao2, cap2, rfl, hO2, hb2⟩
  have HB2 : Hid (Below wx.heap.size wx w2) := Hid.in (bstep (Below.refl _ _).drew (Nat.le_refl _) hb2)
  have HO2 := Hid.in hO2
  refine HK.out _ _ (fun _ => HB2.out) ?_
  clear HK K HS hb2 hO2
  try simp only [Act.put, List.setIfInBounds_toArray, List.set_cons_zero, List.set_cons_succ]
  refine wpBut_one (i := 13) rfl (by kernel_rfl) (fun K HK => ?_)
  go_simp
  refine (cloneI_c w2 0 al nT lcap T (HT0.out.step (bstep HBX.out (Nat.le_refl _) HB2.out)) hT).mono ?_
  rintro r w3 ⟨ao3, cap3, rfl, hO3, hb3⟩
  have HB3 : Hid (Below wx.heap.size wx w3) := Hid.in (bstep HB2.out (Nat.le_refl _) hb3)
  have HO2' := Hid.in (HO2.out.step hb3)
  have HO3 := Hid.in hO3
  have HSZ : Hid (wx.heap.size ≤ w2.heap.size ∧ ∀ k, oblk ao2 = some k → k < w2.heap.size) := Hid.in ⟨HB2.out.size, fun k hk => by obtain ⟨_, cur, hc⟩ := HO2.out.blk k hk; exact blk_lt hc⟩
  refine HK.out _ _ (fun _ => HB3.out) ?_
  clear HK K hb3 hO3 HO2
  try simp only [Act.put, List.setIfInBounds_toArray, List.set_cons_zero, List.set_cons_succ]
  have HS : Hid (Below wx.heap.size wx w3) := HB3
  refine wpBut_take (i := 14) (v := ?_) rfl (by kernel_rfl) (by kernel_rfl) (by exact fun _ _ _ h => h) HS.out (Or.inl ⟨by rfl, ?_⟩) ?_
  case refine_2 => (intro W hSw; obtain ⟨s1, s2, s3⟩ := HF.out W hSw; go_simp; try with_reducible rfl)
  simp only [Act.put, List.setIfInBounds_toArray, List.set_cons_zero, List.set_cons_succ]
  refine wpBut_one (i := 15) rfl (by kernel_rfl) (fun K HK => ?_)
  have hrb3 : w3.heap[w.heap.size]? = some (.cells #[.slice none 0 0, .int .i64 0, .slice none 0 0] 88 (0, 0)) := (HB3.out.block _ hwl).trans HRB.out
  have r0 := blk_cell (i := 0) hrb3 rfl
  have r1 := blk_cell (i := 1) hrb3 rfl
  have r2 := blk_cell (i := 2) hrb3 rfl
  have rf : ∀ i, w3.frozen? ⟨w.heap.size, i, none⟩ = false := fun i => blk_free hrb3
  go_simp
  refine HK.out _ _ (fun h => absurd rfl h) ?_
  clear HK K
  refine wpBut_done (by kernel_rfl) ?_ _
  generalize hw4 : ((w3.setCell ⟨w.heap.size, 0, none⟩ (.slice ao2 n cap2)).setCell ⟨w.heap.size, 1, none⟩ (.int .i64 (g : Int))).setCell ⟨w.heap.size, 2, none⟩ (.slice ao3 nT cap3) = w4
  have hrb4 := blk_set (i := 2) (.slice ao3 nT cap3) (blk_set (i := 1) (.int .i64 (g : Int)) (blk_set (i := 0) (.slice ao2 n cap2) hrb3))
  rw [hw4] at hrb4
  have k0 : w4.cell? ⟨w.heap.size, 0, none⟩ = some (.slice ao2 n cap2) := blk_cell hrb4 rfl
  have k1 : w4.cell? ⟨w.heap.size, 1, none⟩ = some (.int .i64 (g : Int)) := blk_cell hrb4 rfl
  have k2 : w4.cell? ⟨w.heap.size, 2, none⟩ = some (.slice ao3 nT cap3) := blk_cell hrb4 rfl
  have other : ∀ k, k ≠ w.heap.size → w4.heap[k]? = w3.heap[k]? := fun k hk => by
    rw [← hw4, Below.heap_setCell _ _ _ k hk, Below.heap_setCell _ _ _ k hk, Below.heap_setCell _ _ _ k hk]
  have hbz2 : ∀ k, oblk ao2 = some k → k ≠ w.heap.size := fun k hk => by have := (HO2'.out.blk k hk).1; simp only [drew_size] at this; omega
  have hbz3 : ∀ k, oblk ao3 = some k → k ≠ w.heap.size := fun k hk => by have := (HO3.out.blk k hk).1; have := HSZ.out.1; omega
  have HB4 : Hid (Below w.heap.size w w4) := Hid.in (by
    have hb := bstep HBX.out (Nat.le_refl _) HB3.out
    rw [← hw4]
    exact ((hb.setCell (Nat.le_refl _) _).setCell (Nat.le_refl _) _).setCell (Nat.le_refl _) _)
  have HTW : Hid (TwinOf w w4 ⟨ao, cap, L, g, al, lcap, T⟩ ⟨ao2, cap2, L, g, ao3, cap3, T⟩) := Hid.in ⟨rfl, rfl, rfl, ⟨by
    change OwnA 113 2 w4 0 ao2 L.length cap2 (L.map wc)
    rw [HN.out]
    exact (HO2'.out.keep (fun k hk => other k (hbz2 k hk))).low (Nat.zero_le _), by
    change OwnA 3 1 w4 0 ao3 T.length cap3 (T.map tc)
    rw [HNT.out]
    exact (HO3.out.keep (fun k hk => other k (hbz3 k hk))).low (Nat.zero_le _)⟩, fun k hk => by
    rcases List.mem_append.1 hk with hk | hk
    · have := (HO2'.out.blk k (Option.mem_toList.1 hk)).1
      simp only [drew_size] at this
      omega
    · have := (HO3.out.blk k (Option.mem_toList.1 hk)).1
      have := HSZ.out.1
      omega, blks_nodup (fun k hk e => by
    have h1 := (HO3.out.blk k hk).1
    have h2 := HSZ.out.2 k e
    omega)⟩
  clear hrb4 hrb3 r0 r1 r2 rf hw4 other hbz2 hbz3
  go_wp2
  (try simp only [Exit.inBlock, Exit.then])
  refine bodyPost_ret (v := .agg #[.slice ao2 n cap2, .int .i64 (g : Int), .slice ao3 nT cap3]) (by simp [results, Tryd.results37, go_sem, k0, k1, k2]) rfl ⟨⟨ao2, cap2, L, g, ao3, cap3, T⟩, ?_, HTW.out, HB4.out⟩
  rw [HN.out, HNT.out]

/-- A core's part behind the others: the model's row of cores is one longer. -/
theorem Mdl.snoc {w w1 w3 : World} {q : Nat} {H : Hd} {C : List Cr} {M : List Int} {c : Cr} {ab' : Option Addr} {capb' : Nat} (hT : Mdl shP w q H C M)
    (hb : Below w.heap.size w w1) (hc : CrAt shP w1 c) (hcs : ∀ k ∈ c.blks, w.heap.size ≤ k) (hcn : c.blks.Nodup) (hg : w1.grownBy w3 (oblk H.ab))
    (hO : OwnA 88 3 w3 0 ab' (C.length + 1) capb' ((C ++ [c]).map pc)) (hn : ∀ b, oblk ab' = some b → oblk H.ab = some b ∨ w1.heap.size ≤ b) :
    Mdl shP (w3.setCell ⟨q, 0, none⟩ (.slice ab' (C.length + 1) capb')) q ⟨ab', capb', H.am, H.capm⟩ (C ++ [c]) M ∧ (∀ k ∈ bks q ⟨ab', capb', H.am, H.capm⟩ (C ++ [c]), k ∈ bks q H C ∨ w.heap.size ≤ k) ∧ Fr (bks q H C) w (w3.setCell ⟨q, 0, none⟩ (.slice ab' (C.length + 1) capb')) := by
  have hmem := hT.memb
  have hsz := hb.size
  have hql : q < w.heap.size := blk_lt hT.blk
  have hqm : q ∈ bks q H C := mem_bks.2 (.inl rfl)
  have hnd := hT.nd
  have n1 := (List.nodup_append.1 hnd).1
  have n2 := List.nodup_cons.1 n1
  have hqab : oblk H.ab ≠ some q := fun e => n2.1 (List.mem_append_left _ (Option.mem_toList.2 e))
  have hclt : ∀ k ∈ c.blks, k < w1.heap.size := hc.lt
  -- blocks that stay: not the row of cores, not the head
  have stay : ∀ k, k < w1.heap.size → oblk H.ab ≠ some k → k ≠ q → (w3.setCell ⟨q, 0, none⟩ (.slice ab' (C.length + 1) capb')).heap[k]? = w1.heap[k]? := fun k hk h1 h2 => by
    rw [Below.heap_setCell _ _ _ k h2, hg.block k hk (fun e => h1 e.symm)]
  have stay0 : ∀ k, k < w.heap.size → oblk H.ab ≠ some k → k ≠ q → (w3.setCell ⟨q, 0, none⟩ (.slice ab' (C.length + 1) capb')).heap[k]? = w.heap[k]? := fun k hk h1 h2 => by
    rw [stay k (by omega) h1 h2, hb.block k hk]
  have habs : ∀ k, oblk H.ab = some k → k < w.heap.size := fun k hk => by obtain ⟨_, cur, h⟩ := hT.own.blk k hk; exact blk_lt h
  have hab' : ∀ k, oblk ab' = some k → k ≠ q := fun k hk e => by
    subst e
    rcases hn k hk with h | h
    · exact hqab h
    · omega
  have hq3 : w3.heap[q]? = some (.cells #[.slice H.ab C.length H.capb, .slice H.am M.length H.capm] shP.tm (0, 0)) := (hg.block q (by omega) (fun e => hqab e.symm)).trans ((hb.block q hql).trans hT.blk)
  have ham : ∀ k, oblk H.am = some k → k ≠ q ∧ oblk H.ab ≠ some k := fun k hk => ⟨fun e => n2.1 (by rw [← e]; exact List.mem_append_right _ (Option.mem_toList.2 hk)), fun e => (List.nodup_append.1 n2.2).2.2 k (Option.mem_toList.2 e) k (Option.mem_toList.2 hk) rfl⟩
  have hold : ∀ d ∈ C, ∀ k ∈ d.blks, k ≠ q ∧ oblk H.ab ≠ some k ∧ oblk H.am ≠ some k := fun d hd k hk => by
    have hkc : k ∈ C.flatMap Cr.blks := List.mem_flatMap.2 ⟨d, hd, hk⟩
    have hh := fun j hj => (List.nodup_append.1 hnd).2.2 j hj k hkc
    exact ⟨fun e => hh q List.mem_cons_self e.symm, fun e => hh k (List.mem_cons_of_mem _ (List.mem_append_left _ (Option.mem_toList.2 e))) rfl, fun e => hh k (List.mem_cons_of_mem _ (List.mem_append_right _ (Option.mem_toList.2 e))) rfl⟩
  have haml : ∀ k, oblk H.am = some k → k < w.heap.size := fun k hk => by obtain ⟨_, cur, h⟩ := hT.mem.blk k hk; exact blk_lt h
  refine ⟨⟨?_, ?_, ?_, fun d hd => ?_, ?_⟩, fun k hk => ?_, ?_⟩
  · have := blk_set (i := 0) (.slice ab' (C.length + 1) capb') hq3
    simpa using this
  · rw [List.length_append, List.length_singleton]
    exact hO.keep (fun k hk => Below.heap_setCell _ _ _ k (hab' k hk))
  · exact hT.mem.keep (fun k hk => stay0 k (haml k hk) (ham k hk).2 (ham k hk).1)
  · rcases List.mem_append.1 hd with hd | hd
    · exact (hT.each d hd).keep (fun k hk => stay0 k ((hT.each d hd).lt k hk) (hold d hd k hk).2.1 (hold d hd k hk).1)
    · rw [List.mem_singleton.1 hd]
      exact hc.keep (fun k hk => stay k (hclt k hk) (fun e => by have := habs k e; have := hcs k hk; omega) (fun e => by have := hcs k hk; omega))
  · have hamN : ∀ k ∈ (oblk H.am).toList, oblk ab' ≠ some k := fun k hk e => by
      rcases hn k e with h | h
      · exact (ham k (Option.mem_toList.1 hk)).2 h
      · have := haml k (Option.mem_toList.1 hk); omega
    have hflat : ∀ k ∈ C.flatMap Cr.blks, k < w.heap.size ∧ k ≠ q ∧ oblk H.ab ≠ some k ∧ oblk H.am ≠ some k := fun k hk => by
      obtain ⟨d, hd, hkd⟩ := List.mem_flatMap.1 hk
      exact ⟨(hT.each d hd).lt k hkd, hold d hd k hkd⟩
    unfold bks
    simp only [List.flatMap_append, List.flatMap_cons, List.flatMap_nil, List.append_nil]
    refine List.nodup_append.2 ⟨List.nodup_cons.2 ⟨fun hm => ?_, List.nodup_append.2 ⟨by cases oblk ab' <;> simp, by cases oblk H.am <;> simp, fun a ha b hb e => ?_⟩⟩, List.nodup_append.2 ⟨(List.nodup_append.1 hnd).2.1, hcn, fun a ha b hb e => ?_⟩, fun a ha b hb e => ?_⟩
    · rcases List.mem_append.1 hm with hm | hm
      · exact hab' q (Option.mem_toList.1 hm) rfl
      · exact (ham q (Option.mem_toList.1 hm)).1 rfl
    · subst e; exact hamN a hb (Option.mem_toList.1 ha)
    · subst e
      have := (hflat a ha).1
      have := hcs a hb
      omega
    · subst e
      rcases List.mem_append.1 hb with hb | hb
      · obtain ⟨f1, f2, f3, f4⟩ := hflat a hb
        rcases List.mem_cons.1 ha with rfl | ha
        · exact f2 rfl
        · rcases List.mem_append.1 ha with ha | ha
          · rcases hn a (Option.mem_toList.1 ha) with h | h
            · exact f3 h
            · omega
          · exact f4 (Option.mem_toList.1 ha)
      · have h1 := hcs a hb
        have h2 := hclt a hb
        rcases List.mem_cons.1 ha with rfl | ha
        · omega
        · rcases List.mem_append.1 ha with ha | ha
          · rcases hn a (Option.mem_toList.1 ha) with h | h
            · have := habs a h; omega
            · omega
          · have := haml a (Option.mem_toList.1 ha); omega
  · rcases mem_bks.1 hk with rfl | hk | hk | ⟨d, hd, hk⟩
    · exact .inl hqm
    · rcases hn k hk with h | h
      · exact .inl (mem_bks.2 (.inr (.inl h)))
      · exact .inr (by omega)
    · exact .inl (mem_bks.2 (.inr (.inr (.inl hk))))
    · rcases List.mem_append.1 hd with hd | hd
      · exact .inl (mem_bks.2 (.inr (.inr (.inr ⟨d, hd, hk⟩))))
      · rw [List.mem_singleton.1 hd] at hk
        exact .inr (hcs k hk)
  · refine Fr.setCell ⟨hg.os.trans hb.os, hg.tape.trans hb.tape, hg.output.trans hb.output, Nat.le_trans hsz hg.size, fun k hk hn2 => ?_⟩ _ hqm
    rw [hg.block k (by omega) (fun e => hn2 (mem_bks.2 (.inr (.inl e.symm)))), hb.block k hk]
end Go.Proofs.YtncgjclehplfeaaDoor

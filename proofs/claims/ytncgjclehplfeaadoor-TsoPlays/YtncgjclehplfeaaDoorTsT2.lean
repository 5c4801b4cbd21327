/- DERIVED of the program: Twin of the project's model by its contract. Own work. -/
import Derived.Test.YtncgjclehplfeaaDoorTsT
namespace Go.Proofs.YtncgjclehplfeaaDoor
open Go.RowKit Go.Extern.Stop Go.Stop Go.Extern

theorem CoreAt.step {w w' : World} {bb o : Nat} {c : Cr} (h : CoreAt w bb o c) (hb : Below w.heap.size w w') : CoreAt w' bb o c :=
  ⟨(hb.cell (p := ⟨bb, o, none⟩) (lt_cell h.c0)).trans h.c0, (hb.cell (p := ⟨bb, o + 1, none⟩) (lt_cell h.c1)).trans h.c1, (hb.cell (p := ⟨bb, o + 2, none⟩) (lt_cell h.c2)).trans h.c2,
    fun k => by rw [← h.f k]; have := hb.block bb (lt_cell h.c0); simp only [World.frozen?, this], h.r.keep (fun k hk => hb.block k (h.r.lt k hk))⟩
theorem pc_one (c : Cr) : ∀ v ∈ pc c, v.oneCell' = true := by
  intro v hv
  simp only [pc, List.mem_cons, List.not_mem_nil, or_false] at hv
  rcases hv with rfl | rfl | rfl <;> rfl
/-- In the midst of Twin. -/
structure TwAt (w0 w : World) (t N : Nat) (A : List (List (Int × Int))) (M : List Int) (H : Hd) (C : List Cr) (j : Nat) : Prop where
  m : Mdl shP w t H C M
  l : C.length = j
  d : ∀ i c, C[i]? = some c → c.L = A.getD i [] ∧ c.ok M.length N
  b : Below w0.heap.size w0 w
  s : ∀ k ∈ bks t H C, w0.heap.size ≤ k
theorem TwAt.done {w0 w : World} {t N : Nat} {A : List (List (Int × Int))} {M : List Int} {H : Hd} {C : List Cr} (h : TwAt w0 w t N A M H C A.length) (h1 : A.length ≤ 64) (h2 : M.length ≤ 128) : PM w t (bks t H C) N A M := by
  refine ⟨⟨H, C, h.m, List.ext_getElem (by simp [h.l]) (fun i hi _ => ?_), rfl, fun c hc => ?_⟩, h1, h2⟩
  · simp only [List.getElem_map]
    have hiC : i < C.length := by simpa using hi
    rw [(h.d i _ (List.getElem?_eq_getElem hiC)).1]
    have hiA : i < A.length := by rw [← h.l]; exact hiC
    simp [List.getD, hiA]
  · obtain ⟨i, hi⟩ := List.mem_iff_getElem?.1 hc
    exact (h.d i c hi).2

set_option maxHeartbeats 6400000 in
set_option maxRecDepth 20000 in
theorem ttwin_c (w : World) (q N : Nat) (S : List Nat) (A : List (List (Int × Int))) (M : List Int) (hT : PM w q S N A M) (hN : N ≤ 100000) :
    Calls Tryd.prog 21 #[.pointer (some ⟨q, 0, none⟩)] w fun r w' => ∃ t S', r = .returned (.pointer (some ⟨t, 0, none⟩)) ∧ PM w' t S' N A M ∧ Below w.heap.size w w' ∧ ∀ k ∈ S', w.heap.size ≤ k := by
  have HT := Hid.in hT
  obtain ⟨ab, capb, am, capm, hq⟩ := hT.blk
  have k0 : w.cell? ⟨q, 0, none⟩ = some (.slice ab A.length capb) := blk_cell hq rfl
  have a64 := hT.a64
  have m128 := hT.m128
  have hcore : ∀ j, j < A.length → ∃ bb o c, ab = some ⟨bb, o, none⟩ ∧ CoreAt w bb (o + j * 3) c ∧ c.L = A.getD j [] ∧ c.ok M.length N := fun j hj => by
    obtain ⟨bb, o, cb, c, am', cm, e0, _, hc, hL, hok, _⟩ := hT.core hj
    rw [k0] at e0
    cases e0
    exact ⟨bb, o, c, rfl, hc, hL, hok⟩
  have HCO := Hid.in hcore
  obtain ⟨nA, hnA⟩ : ∃ n, A.length = n := ⟨_, rfl⟩
  obtain ⟨nM, hnM⟩ : ∃ n, M.length = n := ⟨_, rfl⟩
  rw [hnA] at k0 a64 HCO
  rw [hnM] at m128
  have HNA := Hid.in hnA
  have HNM := Hid.in hnM
  have hqz := lt_cell k0
  clear hT hq hcore hnA hnM
  go_enter Tryd.func21, Tryd.ntmps21
  go_wp2_with fail
  refine (tmem_c w q N S A M HT.out).mono ?_
  rintro r w1 ⟨ma, mc, rfl, hO, hb⟩
  rw [HNM.out] at hO
  rw [HNM.out]
  have HB1 := Hid.in hb
  have HO1 := Hid.in hO
  have k1 : w1.cell? ⟨q, 0, none⟩ = _ := (hb.cell (p := ⟨q, 0, none⟩) hqz).trans k0
  clear hb hO
  go_upto_region 2 with fail
  generalize hwx : w1.alloc _ = wx
  have HW : Hid (TwAt w wx w1.heap.size N A M ⟨none, 0, ma, mc⟩ [] 0) := Hid.in (by
    have hbx := below_alloc w1 (.cells #[.slice none 0 0, .slice ma nM mc] 85)
    rw [← hwx]
    refine ⟨⟨?_, OwnA.nil _ _ _ _, ?_, fun c hc => absurd hc List.not_mem_nil, ?_⟩, rfl, fun i c hc => by simp at hc, bstep HB1.out (Nat.le_refl _) hbx, fun k hk => ?_⟩
    · rw [HNM.out]; exact heap_alloc_new _ _
    · rw [HNM.out]; exact (HO1.out.step hbx).low (Nat.zero_le _)
    · unfold bks
      simp only [oblk, Option.map_none, Option.toList_none, List.nil_append, List.flatMap_nil, List.append_nil]
      refine List.nodup_cons.2 ⟨fun hm => ?_, by cases (Option.map Addr.block ma) <;> simp⟩
      obtain ⟨_, cur, hc⟩ := HO1.out.blk _ (Option.mem_toList.1 hm)
      have := blk_lt hc
      omega
    · rcases mem_bks.1 hk with rfl | hk | hk | ⟨c, hc, hk⟩
      · exact HB1.out.size
      · cases hk
      · exact (HO1.out.blk k hk).1
      · exact absurd hc List.not_mem_nil)
  have k2 : wx.cell? ⟨q, 0, none⟩ = some (.slice ab nA capb) := by
    have hl := lt_cell k1
    rw [← hwx]
    exact ((below_alloc w1 _).cell (p := ⟨q, 0, none⟩) hl).trans k1
  generalize w1.heap.size = t at HW ⊢
  clear hwx k1 HO1 HB1 k0
  go_wp2
  go_loopw [15] (fun x wr => ∃ (j : Nat) (H : Hd) (C : List Cr), j ≤ nA ∧ x = .int .i64 (j : Int) ∧ TwAt w wr t N A M H C j) (fun x _ => nA - (intOf x).toNat)
  case atStart => exact ⟨0, _, _, Nat.zero_le _, rfl, HW.out⟩
  case round =>
    obtain ⟨j, H, C, hj, rfl, hW⟩ := hrel
    clear HW k2
    have HW2 := Hid.in hW
    clear hW
    rename World => wo
    by_cases hlt : j < nA
    · obtain ⟨bb, o, c, rfl, hc, hL, hok⟩ := HCO.out j hlt
      have hc2 := hc.step HW2.out.b
      have c0 := hc2.c0
      have c1 := hc2.c1
      have c2 := hc2.c2
      have HC2 := Hid.in hc2
      have HLL := Hid.in hL
      have HOK := Hid.in hok
      have i1 : (j : Int) < (nA : Int) := by omega
      obtain ⟨ao, cap, L, g, al, lcap, T⟩ := c
      simp only [] at c0 c1 c2
      clear hc hc2 hL hok
      go_upto_region 5 with fail
      generalize hwl : wo.alloc _ = wl
      have HBL : Hid (Below wo.heap.size wo wl) := Hid.in (by rw [← hwl]; exact below_alloc _ _)
      have hlb : wl.heap[wo.heap.size]? = some (.cells #[.slice ao L.length cap, .int .i64 (g : Int), .slice al T.length lcap] 88 (0, 0)) := by rw [← hwl]; exact heap_alloc_new _ _
      have HCL : Hid (CoreAt wl wo.heap.size 0 ⟨ao, cap, L, g, al, lcap, T⟩) := Hid.in ⟨blk_cell hlb rfl, blk_cell hlb rfl, blk_cell hlb rfl, fun k => blk_free hlb, HC2.out.r.keep (fun k hk => HBL.out.block k (HC2.out.r.lt k hk))⟩
      have HWL : Hid (TwAt w wl t N A M H C j) := Hid.in ⟨HW2.out.m.step HBL.out, HW2.out.l, HW2.out.d, bstep HW2.out.b (Nat.le_refl _) HBL.out, HW2.out.s⟩
      clear hwl hlb HBL HW2 c0 c1 c2 HC2
      generalize wo.heap.size = lb at HCL ⊢
      have HF : Hid (∀ W, Below wl.heap.size wl W → W.cell? ⟨t, 0, none⟩ = some (.slice H.ab j H.capb) ∧ W.frozen? ⟨t, 0, none⟩ = false) := Hid.in (fun W hW => by
        have hm := (hW.block t (blk_lt HWL.out.m.blk)).trans HWL.out.m.blk
        rw [HWL.out.l] at hm
        exact ⟨blk_cell hm rfl, blk_free hm⟩)
      refine wp_region_but (fun W => cellIs t 0 (.slice H.ab j H.capb) W) 10 (by kernel_rfl) ?_
      have HS : Hid (cellIs t 0 (.slice H.ab j H.capb) wl.drew) := Hid.in (HF.out _ (Below.refl _ _).drew).1
      refine wpBut_take (i := 0) (v := ?_) rfl (by kernel_rfl) (by kernel_rfl) (by exact fun _ _ _ h => h) HS.out (Or.inl ⟨by rfl, ?_⟩) ?_
      case refine_2 => (intro w hSw; simp only [cellIs] at hSw; go_simp; try with_reducible rfl)
      simp only [Act.put, List.setIfInBounds_toArray, List.set_cons_zero, List.set_cons_succ]
      refine wpBut_take (i := 1) (v := ?_) rfl (by kernel_rfl) (by kernel_rfl) (by exact fun _ _ _ h => h) HS.out (Or.inl ⟨by rfl, ?_⟩) ?_
      case refine_2 => (intro w hSw; simp only [cellIs] at hSw; go_simp; try with_reducible rfl)
      simp only [Act.put, List.setIfInBounds_toArray, List.set_cons_zero, List.set_cons_succ]
      refine wpBut_take (i := 2) (v := ?_) rfl (by kernel_rfl) (by kernel_rfl) (by exact fun _ _ _ h => h) HS.out (Or.inl ⟨by rfl, ?_⟩) ?_
      case refine_2 => (intro w hSw; simp only [cellIs] at hSw; go_simp; try with_reducible rfl)
      simp only [Act.put, List.setIfInBounds_toArray, List.set_cons_zero, List.set_cons_succ]
      refine wpBut_take (i := 3) (v := ?_) rfl (by kernel_rfl) (by kernel_rfl) (by exact fun _ _ _ h => h) HS.out (Or.inl ⟨by rfl, ?_⟩) ?_
      case refine_2 => (intro w hSw; simp only [cellIs] at hSw; go_simp; try with_reducible rfl)
      simp only [Act.put, List.setIfInBounds_toArray, List.set_cons_zero, List.set_cons_succ]
      refine wpBut_take (i := 4) (v := ?_) rfl (by kernel_rfl) (by kernel_rfl) (by exact fun _ _ _ h => h) HS.out (Or.inl ⟨by rfl, ?_⟩) ?_
      case refine_2 => (intro w hSw; simp only [cellIs] at hSw; go_simp; try with_reducible rfl)
      simp only [Act.put, List.setIfInBounds_toArray, List.set_cons_zero, List.set_cons_succ]
      refine wpBut_one (i := 5) rfl (by kernel_rfl) (fun K HK => ?_)
      go_simp
      refine (btwin_c wl.drew lb 0 ⟨ao, cap, L, g, al, lcap, T⟩ (HCL.out.step (Below.refl _ _).drew) (by have := HOK.out.most; simp only [] at this ⊢; omega) (by have := HOK.out.len; have := HNM.out; simp only [] at *; omega)).mono ?_
      rintro r w2 ⟨c', rfl, hTw, hb2⟩
      have HB2 : Hid (Below wl.heap.size wl w2) := Hid.in (bstep (Below.refl _ _).drew (Nat.le_refl _) hb2)
      have HTW := Hid.in hTw
      refine HK.out _ _ (fun _ => (HF.out _ HB2.out).1) ?_
      clear HK K HS hb2 hTw
      try simp only [Act.put, List.setIfInBounds_toArray, List.set_cons_zero, List.set_cons_succ]
      refine wpBut_one (i := 6) rfl (by kernel_rfl) (fun K HK => ?_)
      go_simp
      have HB3 : Hid (Below wl.heap.size wl (w2.alloc (.cells #[.slice c'.ao c'.L.length c'.cap, .int .i64 (c'.g : Int), .slice c'.al c'.T.length c'.lcap] 88))) := Hid.in (bstep HB2.out (Nat.le_refl _) (below_alloc _ _))
      have HR3 : Hid (Rows' 3 (w2.alloc (.cells #[.slice c'.ao c'.L.length c'.cap, .int .i64 (c'.g : Int), .slice c'.al c'.T.length c'.lcap] 88)) (some ⟨w2.heap.size, 0, none⟩) 1 [pc c']) := Hid.in (Rows'.lit 3 w2 88 (pc c') _ rfl rfl (pc_one c'))
      refine HK.out _ _ (fun _ => (HF.out _ HB3.out).1) ?_
      clear HK K
      try simp only [Act.put, List.setIfInBounds_toArray, List.set_cons_zero, List.set_cons_succ]
      refine wpBut_one (i := 7) rfl (by kernel_rfl) (fun K HK => ?_)
      have HOW : Hid (OwnA 88 3 (w2.alloc (.cells #[.slice c'.ao c'.L.length c'.cap, .int .i64 (c'.g : Int), .slice c'.al c'.T.length c'.lcap] 88)) 0 H.ab j H.capb (C.map pc)) := Hid.in (by
        have h := HWL.out.m.own.step HB3.out
        rw [HWL.out.l] at h
        exact h)
      refine step_concatA rfl 83 88 3 56 _ (.tmp 23) (.tmp 25) rfl Tryd.underlying83 Tryd.infoBuf rfl (by decide) (by decide) 0 H.ab (some ⟨w2.heap.size, 0, none⟩) j H.capb 1 1 (C.map pc) [pc c'] (by rfl) HOW.out (by rfl) rfl HR3.out (Nat.zero_le _) (by omega) ?_
      intro ab3 cap3 w3 HO3 HG3 HN3 _
      have ht3 : w3.cell? ⟨t, 0, none⟩ = some (.slice H.ab j H.capb) ∧ w3.frozen? ⟨t, 0, none⟩ = false := by
        have n2 := List.nodup_cons.1 (List.nodup_append.1 HWL.out.m.nd).1
        have hne : some t ≠ oblk H.ab := fun e => n2.1 (List.mem_append_left _ (Option.mem_toList.2 e.symm))
        have hm := (HG3.out.block t (Nat.lt_of_lt_of_le (blk_lt HWL.out.m.blk) HB3.out.size) hne).trans ((HB3.out.block t (blk_lt HWL.out.m.blk)).trans HWL.out.m.blk)
        rw [HWL.out.l] at hm
        exact ⟨blk_cell hm rfl, blk_free hm⟩
      refine HK.out _ _ (fun _ => ht3.1) ?_
      clear HK K
      try simp only [Act.put, List.setIfInBounds_toArray, List.set_cons_zero, List.set_cons_succ]
      have HS : Hid (cellIs t 0 (.slice H.ab j H.capb) w3) := Hid.in ht3.1
      refine wpBut_take (i := 8) (v := ?_) rfl (by kernel_rfl) (by kernel_rfl) (by exact fun _ _ _ h => h) HS.out (Or.inl ⟨by rfl, ?_⟩) ?_
      case refine_2 => (intro w hSw; simp only [cellIs] at hSw; go_simp; try with_reducible rfl)
      simp only [Act.put, List.setIfInBounds_toArray, List.set_cons_zero, List.set_cons_succ]
      refine wpBut_take (i := 9) (v := ?_) rfl (by kernel_rfl) (by kernel_rfl) (by exact fun _ _ _ h => h) HS.out (Or.inl ⟨by rfl, ?_⟩) ?_
      case refine_2 => (intro w hSw; simp only [cellIs] at hSw; go_simp; try with_reducible rfl)
      simp only [Act.put, List.setIfInBounds_toArray, List.set_cons_zero, List.set_cons_succ]
      refine wpBut_one (i := 10) rfl (by kernel_rfl) (fun K HK => ?_)
      obtain ⟨t0, tf⟩ := ht3
      go_simp
      refine HK.out _ _ (fun h => absurd rfl h) ?_
      clear HK K t0 tf HS
      refine wpBut_done (by kernel_rfl) ?_ _
      have HNX : Hid (∃ H' C', TwAt w (w3.setCell ⟨t, 0, none⟩ (.slice ab3 (j + 1) cap3)) t N A M H' C' (j + 1)) := Hid.in (by
        have hOc : OwnA 88 3 w3 0 ab3 (C.length + 1) cap3 ((C ++ [c']).map pc) := by
          rw [HWL.out.l, List.map_append]
          exact HO3.out
        obtain ⟨m1, m2, m3⟩ := HWL.out.m.snoc (w1 := w2.alloc (.cells #[.slice c'.ao c'.L.length c'.cap, .int .i64 (c'.g : Int), .slice c'.al c'.T.length c'.lcap] 88)) HB3.out (HTW.out.r.keep (fun k hk => (below_alloc w2 _).block k (HTW.out.r.lt k hk))) HTW.out.s HTW.out.n HG3.out hOc HN3.out
        rw [HWL.out.l] at m1 m3
        refine ⟨_, _, m1, by rw [List.length_append, HWL.out.l]; rfl, fun i c hc => ?_, m3.below HWL.out.b HWL.out.s HWL.out.b.size, fun k hk => ?_⟩
        · by_cases hi : i < C.length
          · rw [List.getElem?_append_left hi] at hc
            exact HWL.out.d i c hc
          · have hle : i < (C ++ [c']).length := (List.getElem?_eq_some_iff.1 hc).1
            rw [List.length_append, List.length_singleton] at hle
            obtain rfl : i = C.length := by omega
            rw [List.getElem?_append_right (Nat.le_refl _), Nat.sub_self] at hc
            cases hc
            obtain ⟨e1, e2, e3, _, _, _⟩ := HTW.out
            refine ⟨by rw [e1, HWL.out.l]; exact HLL.out, ?_⟩
            have hk := HOK.out
            exact ⟨by rw [e3]; exact hk.len, by rw [e1, e2]; exact hk.most, by rw [e1, e2, e3]; exact hk.last⟩
        · rcases m2 k hk with h | h
          · exact HWL.out.s k h
          · exact Nat.le_trans HWL.out.b.size h)
      clear HO3 HG3 HN3 HB2 HB3 HR3 HOW HTW HCL HF
      go_wp2
      go_roundw
      case rel =>
        obtain ⟨H', C', h⟩ := HNX.out
        exact ⟨j + 1, H', C', by omega, by go_num, h⟩
      case measure => simp [intOf]; omega
    · obtain rfl : j = nA := by omega
      have HD : Hid (PM wo t (bks t H C) N A M) := Hid.in (TwAt.done (by have h := HW2.out; rw [← HNA.out] at h; exact h) (by rw [HNA.out]; exact a64) (by rw [HNM.out]; exact m128))
      go_wp2
      go_ret
      exact ⟨t, _, rfl, HD.out, HW2.out.b, HW2.out.s⟩
end Go.Proofs.YtncgjclehplfeaaDoor

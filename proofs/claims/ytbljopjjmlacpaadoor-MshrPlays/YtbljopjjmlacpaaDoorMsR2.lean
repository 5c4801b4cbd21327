/- DERIVED of the program: the document's own table of misses: Drop by its contract. Own work. -/
import Derived.Test.YtbljopjjmlacpaaDoorMsR
import Derived.Test.YtbljopjjmlacpaaDoorGenD
import Derived.Laws.BitsLemmas
namespace Go.Proofs.YtbljopjjmlacpaaDoor
open Go.RowKit Go.Extern.Stop Go.Stop Go.Extern

theorem OwnS.lit0 (t : TypeId) (m : Nat) (w : World) (B : Nat) (hB : B ≤ w.heap.size) : OwnS t m (w.alloc (.cells #[] t)) B (some ⟨w.heap.size, 0, none⟩) 0 0 [] :=
  ⟨fun _ h => absurd h List.not_mem_nil, World.ownsRow_lit w #[] 0 hB (Nat.zero_le _) (by simp)⟩
theorem Tryd.infoRMiss : (Tryd.prog.info? 47).map (fun i => (i.zero, i.size, i.bytes)) = some (some (.agg #[.int .i64 0, .int .i64 0]), 2, 16) := by kernel_rfl

/-- A table's block in every world above this one. -/
theorem RT.above {w : World} {q m N cap : Nat} {ao : Option Addr} (h : w.heap[q]? = some (.cells #[.int .i64 (m : Int), .slice ao N cap] 45 (0, 0))) : ∀ W, Below w.heap.size w W → W.cell? ⟨q, 1, none⟩ = some (.slice ao N cap) ∧ W.frozen? ⟨q, 1, none⟩ = false ∧ W.heap[q]? = some (.cells #[.int .i64 (m : Int), .slice ao N cap] 45 (0, 0)) := by
  intro W hb
  have h2 := (hb.block q (blk_lt h)).trans h
  exact ⟨blk_cell h2 rfl, blk_free h2, h2⟩

/-- 's[j:]' of such a row. -/
theorem slice_from (ao : Option Addr) (N cap j : Nat) (hj : j ≤ N) (w : World) : (Instr.sliceAt 43 (.slice ao N cap) (some (.int .i64 (j : Int))) none none).run Tryd.prog w = .ok (.slice (if cap = j then ao else ao.map (·.add (j * 2))) (N - j) (cap - j)) w := by
  obtain ⟨i0, hi, hz0, hz1, hz2⟩ := info_parts Tryd.infoRMiss
  have hj2 : (0 : Int) ≤ (j : Int) ∧ (j : Int) ≤ (N : Int) := by omega
  simp [Instr.sliceAt, Instr.slice, Instr.sliceBounds, Instr.sliceBound, asIntOf, Sem.run_bind, run_underlying Tryd.underlying43, hj2, sizeOf, typeInfo, hi, hz1]
  intro h
  omega
theorem rows_from {m : Nat} {w : World} {ao : Option Addr} {cap j : Nat} {rs : List (List Value)} (h : Rows' m w ao cap rs) (hn : j ≤ rs.length) : Rows' m w (if cap = j then ao else ao.map (·.add (j * m))) (cap - j) (rs.drop j) := by
  have hle := h.le
  by_cases hc : cap = j
  · rw [if_pos hc]
    have h0 : rs.drop j = [] := List.drop_eq_nil_of_le (by omega)
    rw [h0]
    refine ⟨Nat.zero_le _, fun _ hx => absurd hx (Nat.not_lt_zero _), fun _ hx => absurd hx List.not_mem_nil, fun _ => by omega⟩
  · rw [if_neg hc]
    cases ao with
    | none => exact absurd (h.nil0 rfl) (by omega)
    | some ad =>
      rcases Nat.lt_or_ge j rs.length with h2 | h2
      · by_cases hm : m = 0
        · subst hm
          refine ⟨by rw [List.length_drop]; omega, fun k hk c v hv => ?_, fun r hr => h.each r (List.mem_of_mem_drop hr), (by simp)⟩
          have he := (h.each _ (List.mem_of_mem_drop (List.getElem_mem hk))).1
          have := (List.getElem?_eq_some_iff.1 hv).1
          omega
        · have hr0 : rs[j][0]? = some (rs[j][0]'(by rw [(h.each _ (List.getElem_mem h2)).1]; omega)) := List.getElem?_eq_getElem _
          obtain ⟨b, o, e, _⟩ := h.cell j h2 0 _ hr0
          cases e
          have := h.drop j hn
          by_cases hjm : j * m = 0
          · simp only [Option.map_some, Addr.add, hjm, Nat.add_zero] at this ⊢
            simpa using this
          · simpa [Addr.add, hjm] using this
      · have h0 : rs.drop j = [] := List.drop_eq_nil_of_le h2
        rw [h0]
        exact Rows'.none_ _ _ _ _

theorem RT.put {w : World} {q m n N cap c3 B : Nat} {ao ao3 : Option Addr} {L : List (Int × Int)} (h : w.heap[q]? = some (.cells #[.int .i64 (m : Int), .slice ao N cap] 45 (0, 0))) (hO : OwnM 47 w B ao3 n c3 L) (hq : q < B) (hle : L.length ≤ 32) : RT (w.setCell ⟨q, 1, none⟩ (.slice ao3 n c3)) q m L := by
  have hn : n = L.length := hO.mlen
  subst hn
  refine ⟨⟨ao3, c3, ?_, OwnS.low (OwnS.apart hO ((Apart.of_below (Below.refl _ _)).setCell (lo := q) (hi := q + 1) _ (Nat.le_refl _) (by omega)) (fun k hk => by have := (hO.blk k hk).1; omega)) (by omega)⟩, hle⟩
  rw [blk_set _ h]
  simp

set_option maxHeartbeats 3200000 in
set_option maxRecDepth 20000 in
theorem rmdrop_any (w : World) (q m : Nat) (L : List (Int × Int)) (hT : RT w q m L) (l : Int) (c : Bool) (L' : List (Int × Int)) (hy : ∀ (j : Nat) (y : Int), L[j]? = some (l, y) → c = true ∧ L' = L.take j ++ L.drop (j + 1)) (hn : (∀ i : Nat, i < L.length → ∀ x y, L[i]? = some (x, y) → x ≠ l) → c = false ∧ L' = L) :
    Calls Tryd.prog 19 #[.pointer (some ⟨q, 0, none⟩), .int .i64 l] w fun r w' => r = .returned (.bool c) ∧ RT w' q m L' ∧ Apart q (q + 1) w w' := by
  have HT := Hid.in hT
  obtain ⟨⟨ao, cap, hq, hO⟩, hle⟩ := hT
  have hc1 : w.cell? ⟨q, 1, none⟩ = some (.slice ao L.length cap) := blk_cell hq rfl
  have HQ := Hid.in (RT.above hq)
  have HO := Hid.in hO
  have HY := Hid.in hy
  have HN := Hid.in hn
  obtain ⟨N, hN⟩ : ∃ N, L.length = N := ⟨_, rfl⟩
  rw [hN] at hc1 HO hle HQ
  have HL := Hid.in hN
  clear hq hO hy hn hN
  go_enter Tryd.func19, Tryd.ntmps19
  go_wp2
  go_loopw [12] (fun c wr => ∃ j : Nat, j ≤ N ∧ c = .int .i64 (j : Int) ∧ (∀ i : Nat, i < j → ∀ x y, L[i]? = some (x, y) → x ≠ l) ∧ Below w.heap.size w wr) (fun c _ => N - (intOf c).toNat)
  case atStart => exact ⟨0, Nat.zero_le _, rfl, fun i hi => absurd hi (Nat.not_lt_zero _), Below.refl _ _⟩
  case round =>
    obtain ⟨j, hj, rfl, hno, hb⟩ := hrel
    have HB := Hid.in hb
    have HO' := Hid.in (OwnS.step HO.out hb)
    have HNO := Hid.in hno
    clear hb hno hc1
    by_cases hlt : j < N
    · obtain ⟨b1, x, y, rfl, x1, x2, hxy⟩ := OwnS.miss2 HO'.out j (by rw [HL.out]; exact hlt)
      have HXY := Hid.in hxy
      have i1 : (j : Int) < (N : Int) := by omega
      clear hxy
      by_cases hxl : x = l
      · subst hxl
        have hcap : N ≤ cap := by have := (OwnS.rows HO'.out (by decide) (mcs_one L)).le; rw [List.length_map, HL.out] at this; exact this
        have i2 : (j : Int) ≤ (cap : Int) := by omega
        have i3 : (j : Int) + 1 ≤ (N : Int) := by omega
        go_upto_region 5 with fail
        rename World => wr
        generalize hww : wr.alloc _ = wx
        have HWX : Hid (Below w.heap.size w wx) := Hid.in (by rw [← hww]; exact HB.out.alloc HB.out.size _)
        clear hww x1 x2
        have HOX := Hid.in (OwnS.step HO.out HWX.out)
        have HRX : Hid (Rows' 2 (wx.alloc (.cells #[] 47)).drew (some ⟨b1, 0, none⟩) cap ((L.map mc).take j)) := Hid.in (((OwnS.rows HOX.out (by decide) (mcs_one L)).step (below_alloc _ _).drew).take j)
        have HO1 : Hid (OwnS 47 2 (wx.alloc (.cells #[] 47)).drew wx.heap.size (some ⟨wx.heap.size, 0, none⟩) 0 0 []) := Hid.in ((OwnS.lit0 _ _ wx _ (Nat.le_refl _)).step (Below.refl _ _).drew)
        have HBd : Hid (Below wx.heap.size wx (wx.alloc (.cells #[] 47)).drew) := Hid.in (below_alloc _ _).drew
        have hlj : j = ((L.map mc).take j).length := by rw [List.length_take, List.length_map, HL.out]; omega
        have HLJ := Hid.in hlj
        clear hlj
        obtain ⟨y1, _, _⟩ := HQ.out wx HWX.out
        have hfz : ∀ W, Below wx.heap.size wx W → W.frozen? ⟨q, 1, none⟩ = false := fun W h => (HQ.out W (bstep HWX.out (Nat.le_refl _) h)).2.1
        have hkc : ∀ W, Below wx.heap.size wx W → W.cell? ⟨q, 1, none⟩ = some (.slice (some ⟨b1, 0, none⟩) N cap) := fun W h => (HQ.out W (bstep HWX.out (Nat.le_refl _) h)).1
        have hbr : Below wx.heap.size wx wx := Below.refl _ _
        have hbd : ∀ W, Below wx.heap.size wx W → Below wx.heap.size wx W.drew := fun W h => h.drew
        have hba : ∀ W o, Below wx.heap.size wx W → Below wx.heap.size wx (W.alloc o) := fun W o h => h.alloc h.size o
        have hlN : j + 1 ≤ (L.map mc).length := by rw [List.length_map, HL.out]; omega
        have hRA := rows_from (OwnS.rows HOX.out (by decide) (mcs_one L)) hlN
        obtain ⟨p, hp⟩ : ∃ p : Nat, j + 1 = p := ⟨_, rfl⟩
        have hsl := slice_from (some ⟨b1, 0, none⟩) N cap p (by omega)
        rw [hp] at hRA
        obtain ⟨A, hA⟩ : ∃ A : Option Addr, (if cap = p then (some ⟨b1, 0, none⟩ : Option Addr) else (some ⟨b1, 0, none⟩ : Option Addr).map (·.add (p * 2))) = A := ⟨_, rfl⟩
        rw [hA] at hRA hsl
        have hpN : (p : Int) ≤ (N : Int) := by omega
        have hsum : IntKind.i64.wrap ((j : Int) + 1) = (p : Int) := by
          have h1 : (j : Int) + 1 = (p : Int) := by omega
          have h2 : (p : Int) ≤ 32 := by omega
          rw [h1, IntKind.wrap_i64]
          omega
        have HRA := Hid.in hRA
        have HLD : Hid (N - p = ((L.map mc).drop p).length) := Hid.in (by rw [List.length_drop, List.length_map, HL.out])
        clear hRA hA hlN
        have HP := Hid.in hp
        clear hp i3
        refine wp_region_but (cellIs q 1 (.slice (some ⟨b1, 0, none⟩) N cap)) 19 (by kernel_rfl) ?_
        have HS : Hid (cellIs q 1 (.slice (some ⟨b1, 0, none⟩) N cap) wx.drew) := Hid.in (hkc _ hbr.drew)
        refine wpBut_take (i := 0) (v := ?_) rfl (by kernel_rfl) (by kernel_rfl) (by exact fun _ _ _ h => h) HS.out (Or.inl ⟨by rfl, ?_⟩) ?_
        case refine_2 => (intro w hSw; simp only [cellIs] at hSw; go_simp; try with_reducible rfl)
        simp only [Act.put, List.setIfInBounds_toArray, List.set_cons_zero, List.set_cons_succ]
        refine wpBut_take (i := 2) (v := ?_) rfl (by kernel_rfl) (by kernel_rfl) (by exact fun _ _ _ h => h) HS.out (Or.inl ⟨by rfl, ?_⟩) ?_
        case refine_2 => (intro w hSw; simp only [cellIs] at hSw; go_simp; try with_reducible rfl)
        simp only [Act.put, List.setIfInBounds_toArray, List.set_cons_zero, List.set_cons_succ]
        refine wpBut_take (i := 3) (v := ?_) rfl (by kernel_rfl) (by kernel_rfl) (by exact fun _ _ _ h => h) HS.out (Or.inl ⟨by rfl, ?_⟩) ?_
        case refine_2 => (intro w hSw; simp only [cellIs] at hSw; go_simp; try with_reducible rfl)
        simp only [Act.put, List.setIfInBounds_toArray, List.set_cons_zero, List.set_cons_succ]
        refine wpBut_take (i := 4) (v := ?_) rfl (by kernel_rfl) (by kernel_rfl) (by exact fun _ _ _ h => h) HS.out (Or.inl ⟨by rfl, ?_⟩) ?_
        case refine_2 => (intro w hSw; simp only [cellIs] at hSw; go_simp; try with_reducible rfl)
        simp only [Act.put, List.setIfInBounds_toArray, List.set_cons_zero, List.set_cons_succ]
        refine wpBut_take (i := 5) (v := ?_) rfl (by kernel_rfl) (by kernel_rfl) (by exact fun _ _ _ h => h) HS.out (Or.inl ⟨by rfl, ?_⟩) ?_
        case refine_2 => (intro w hSw; simp only [cellIs] at hSw; go_simp; try with_reducible rfl)
        simp only [Act.put, List.setIfInBounds_toArray, List.set_cons_zero, List.set_cons_succ]
        refine wpBut_take (i := 6) (v := ?_) rfl (by kernel_rfl) (by kernel_rfl) (by exact fun _ _ _ h => h) HS.out (Or.inl ⟨by rfl, ?_⟩) ?_
        case refine_2 => (intro w hSw; simp only [cellIs] at hSw; go_simp; try with_reducible rfl)
        simp only [Act.put, List.setIfInBounds_toArray, List.set_cons_zero, List.set_cons_succ]
        refine wpBut_take (i := 7) (v := ?_) rfl (by kernel_rfl) (by kernel_rfl) (by exact fun _ _ _ h => h) HS.out (Or.inl ⟨by rfl, ?_⟩) ?_
        case refine_2 => (intro w hSw; simp only [cellIs] at hSw; go_simp; try with_reducible rfl)
        simp only [Act.put, List.setIfInBounds_toArray, List.set_cons_zero, List.set_cons_succ]
        refine wpBut_take (i := 9) (v := ?_) rfl (by kernel_rfl) (by kernel_rfl) (by exact fun _ _ _ h => h) HS.out (Or.inl ⟨by rfl, ?_⟩) ?_
        case refine_2 => (intro w hSw; simp only [cellIs] at hSw; go_simp; try with_reducible rfl)
        simp only [Act.put, List.setIfInBounds_toArray, List.set_cons_zero, List.set_cons_succ]
        refine wpBut_take (i := 10) (v := ?_) rfl (by kernel_rfl) (by kernel_rfl) (by exact fun _ _ _ h => h) HS.out (Or.inl ⟨by rfl, ?_⟩) ?_
        case refine_2 => (intro w hSw; simp only [cellIs] at hSw; go_simp; try with_reducible rfl)
        simp only [Act.put, List.setIfInBounds_toArray, List.set_cons_zero, List.set_cons_succ]
        refine wpBut_take (i := 11) (v := ?_) rfl (by kernel_rfl) (by kernel_rfl) (by exact fun _ _ _ h => h) HS.out (Or.inl ⟨by rfl, ?_⟩) ?_
        case refine_2 => (intro w hSw; simp only [cellIs] at hSw; go_simp; try with_reducible rfl)
        simp only [Act.put, List.setIfInBounds_toArray, List.set_cons_zero, List.set_cons_succ]
        refine wpBut_take (i := 12) (v := ?_) rfl (by kernel_rfl) (by kernel_rfl) (by exact fun _ _ _ h => h) HS.out (Or.inl ⟨by rfl, ?_⟩) ?_
        case refine_2 => (intro w hSw; simp only [cellIs] at hSw; go_simp; try with_reducible rfl)
        simp only [Act.put, List.setIfInBounds_toArray, List.set_cons_zero, List.set_cons_succ]
        refine wpBut_take (i := 13) (v := ?_) rfl (by kernel_rfl) (by kernel_rfl) (by exact fun _ _ _ h => h) HS.out (Or.inl ⟨by rfl, ?_⟩) ?_
        case refine_2 => (intro w hSw; simp only [cellIs] at hSw; go_simp; try with_reducible rfl)
        simp only [Act.put, List.setIfInBounds_toArray, List.set_cons_zero, List.set_cons_succ]
        refine wpBut_take (i := 14) (v := ?_) rfl (by kernel_rfl) (by kernel_rfl) (by exact fun _ _ _ h => h) HS.out (Or.inl ⟨by rfl, ?_⟩) ?_
        case refine_2 => (intro w hSw; simp only [cellIs] at hSw; go_simp; try with_reducible rfl)
        simp only [Act.put, List.setIfInBounds_toArray, List.set_cons_zero, List.set_cons_succ]
        refine wpBut_take (i := 15) (v := ?_) rfl (by kernel_rfl) (by kernel_rfl) (by exact fun _ _ _ h => h) HS.out (Or.inl ⟨by rfl, ?_⟩) ?_
        case refine_2 => (intro w hSw; simp only [cellIs] at hSw; go_simp; try with_reducible rfl)
        simp only [Act.put, List.setIfInBounds_toArray, List.set_cons_zero, List.set_cons_succ]
        refine wpBut_one (i := 1) rfl (by kernel_rfl) (fun K HK => ?_)
        go_simp
        refine HK.out _ _ (fun _ => hkc _ (hba _ _ hbr.drew)) ?_
        clear HK K
        refine wpBut_one (i := 8) rfl (by kernel_rfl) (fun K HK => ?_)
        refine step_concatS rfl 43 47 2 16 _ (.tmp 22) (.tmp 28) rfl Tryd.underlying43 Tryd.infoRMiss rfl (by decide) (by decide) wx.heap.size wx (some ⟨wx.heap.size, 0, none⟩) (some ⟨b1, 0, none⟩) 0 0 j cap [] ((L.map mc).take j) (by rfl) HO1.out (by rfl) HLJ.out HRX.out HBd.out (by simp) (by omega) ?_
        intro ao2 c2 w2 HO2 HB2 _
        refine HK.out _ _ (fun _ => hkc _ HB2.out) ?_
        simp only [Act.put, List.setIfInBounds_toArray, List.set_cons_zero, List.set_cons_succ]
        clear HK K HS HO1 HRX HBd
        refine wpBut_one (i := 16) rfl (by kernel_rfl) (fun K HK => ?_)
        refine step_concatS rfl 43 47 2 16 _ (.tmp 29) (.tmp 36) rfl Tryd.underlying43 Tryd.infoRMiss rfl (by decide) (by decide) wx.heap.size wx ao2 A (0 + j) c2 (N - p) (cap - p) _ ((L.map mc).drop p) (by rfl) HO2.out (by rfl) HLD.out (HRA.out.step HB2.out) HB2.out HB2.out.size (by omega) ?_
        intro ao3 c3 w3 HO3 HB3 _
        refine HK.out _ _ (fun _ => hkc _ HB3.out) ?_
        simp only [Act.put, List.setIfInBounds_toArray, List.set_cons_zero, List.set_cons_succ]
        clear HK K
        have HS : Hid (cellIs q 1 (.slice (some ⟨b1, 0, none⟩) N cap) w3) := Hid.in (hkc _ HB3.out)
        refine wpBut_take (i := 17) (v := ?_) rfl (by kernel_rfl) (by kernel_rfl) (by exact fun _ _ _ h => h) HS.out (Or.inl ⟨by rfl, ?_⟩) ?_
        case refine_2 => (intro w hSw; simp only [cellIs] at hSw; go_simp; try with_reducible rfl)
        simp only [Act.put, List.setIfInBounds_toArray, List.set_cons_zero, List.set_cons_succ]
        refine wpBut_take (i := 18) (v := ?_) rfl (by kernel_rfl) (by kernel_rfl) (by exact fun _ _ _ h => h) HS.out (Or.inl ⟨by rfl, ?_⟩) ?_
        case refine_2 => (intro w hSw; simp only [cellIs] at hSw; go_simp; try with_reducible rfl)
        simp only [Act.put, List.setIfInBounds_toArray, List.set_cons_zero, List.set_cons_succ]
        refine wpBut_one (i := 19) rfl (by kernel_rfl) (fun K HK => ?_)
        have hz1 := hkc _ HB3.out
        have hz2 := hfz _ HB3.out
        go_simp
        refine HK.out _ _ (fun h => absurd rfl h) ?_
        clear HK K
        refine wpBut_done (by kernel_rfl) ?_ _
        have hw3 := (HQ.out w3 (bstep HWX.out (Nat.le_refl _) HB3.out)).2.2
        have hqx : q < wx.heap.size := Nat.lt_of_lt_of_le HT.out.lt HWX.out.size
        have HFIN : Hid (RT (w3.setCell ⟨q, 1, none⟩ (.slice ao3 (0 + j + (N - p)) c3)) q m (L.take j ++ L.drop p)) := Hid.in (RT.put hw3 (B := wx.heap.size) (by have := HO3.out; unfold OwnM; simpa [List.map_append, List.map_take, List.map_drop] using this) hqx (by have := HL.out; have := HP.out; simp only [List.length_append, List.length_take, List.length_drop]; omega))
        have HAP : Hid (Apart q (q + 1) w (w3.setCell ⟨q, 1, none⟩ (.slice ao3 (0 + j + (N - p)) c3))) := Hid.in ((Apart.of_below (bstep HWX.out (Nat.le_refl _) HB3.out)).setCell _ (Nat.le_refl _) (by omega))
        clear hw3 hqx hz1 hz2 hkc hfz hbr hbd hba HS
        go_wp2
        go_ret
        obtain ⟨rfl, rfl⟩ := HY.out j y HXY.out
        have := HP.out
        subst this
        exact ⟨rfl, by simpa using HFIN.out, by simpa using HAP.out⟩
      · have hx0 : (x == l) = false := by simpa using hxl
        have HX := Hid.in hxl
        clear hxl
        go_wp2
        go_roundw
        case rel =>
          refine ⟨j + 1, by omega, by go_num, fun i hi x' y' h' => ?_, HB.out.alloc HB.out.size _⟩
          rcases Nat.lt_or_ge i j with h2 | h2
          · exact HNO.out i h2 x' y' h'
          · obtain rfl : i = j := by omega
            rw [HXY.out] at h'
            cases h'
            exact HX.out
        case measure => simp [intOf]; omega
    · obtain rfl : j = N := by omega
      have hz := HN.out (by rw [HL.out]; exact HNO.out)
      obtain ⟨rfl, rfl⟩ := hz
      go_wp2
      go_ret
      exact ⟨rfl, HT.out.step HB.out, Apart.of_below HB.out⟩

theorem part_at {lo hi : List (Int × Int)} {x : Int × Int} {l y : Int} {j : Nat} (h : (lo ++ [x] ++ hi)[j]? = some (l, y)) (h1 : ∀ z ∈ lo, z.1 < l) (h2 : ∀ z ∈ hi, l < z.1) : j = lo.length := by
  rcases Nat.lt_trichotomy j lo.length with hj | hj | hj
  · rw [List.append_assoc, List.getElem?_append_left hj] at h
    have := h1 _ (List.mem_of_getElem? h)
    simp only [] at this
    omega
  · exact hj
  · rw [List.getElem?_append_right (by simp; omega)] at h
    have := h2 _ (List.mem_of_getElem? h)
    simp only [] at this
    omega
theorem rmdrop_c (w : World) (q m : Nat) (K : List Int) (hK : K.length = 32) (hT : RT w q m (allK K)) (l : Int) (c : Bool) (K' : List Int) (h : dropK K l = (c, K')) :
    Calls Tryd.prog 19 #[.pointer (some ⟨q, 0, none⟩), .int .i64 l] w fun r w' => r = .returned (.bool c) ∧ RT w' q m (allK K') ∧ Apart q (q + 1) w w' := by
  refine rmdrop_any w q m (allK K) hT l c (allK K') (fun j y hj => ?_) (fun hno => ?_)
  · obtain ⟨h1, h2, h3⟩ := allK_some hj
    obtain ⟨n, rfl, hn⟩ := isL_of h1
    rw [Int.toNat_natCast] at h2
    have h0 : K.getD n 0 ≠ 0 := by rw [h2]; exact h3
    rw [dropK_at K n hn, if_neg h0] at h
    cases h
    obtain ⟨lo, hi, e1, e2, e3, e4⟩ := allK_drop hK hn h0
    rw [e1] at hj
    have hjl := part_at hj e3 e4
    refine ⟨rfl, ?_⟩
    rw [e2, e1, hjl]
    simp
  · unfold dropK at h
    rw [if_neg (fun x => x.2 (allK_none hno x.1))] at h
    cases h
    exact ⟨rfl, rfl⟩

end Go.Proofs.YtbljopjjmlacpaaDoor

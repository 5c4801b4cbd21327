/- DERIVED of the program: the document's own table of misses: Add by its contract. Own work. -/
import Derived.Test.YtbljopjjmlacpaaDoorMsR2
namespace Go.Proofs.YtbljopjjmlacpaaDoor
open Go.RowKit Go.Extern.Stop Go.Stop Go.Extern

/-- 's[:j]' of such a row. -/
theorem slice_to (ao : Option Addr) (N cap j : Nat) (hj : j ≤ cap) (w : World) : (Instr.sliceAt 43 (.slice ao N cap) none (some (.int .i64 (j : Int))) none).run Tryd.prog w = .ok (.slice ao j cap) w := by
  obtain ⟨i0, hi, hz0, hz1, hz2⟩ := info_parts Tryd.infoRMiss
  have hj2 : (0 : Int) ≤ (j : Int) ∧ (j : Int) ≤ (cap : Int) := by omega
  have hn : ¬ cap < j := by omega
  have hm : ao.map (fun x => x.add 0) = ao := by cases ao <;> simp [Addr.add]
  simp [Instr.sliceAt, Instr.slice, Instr.sliceBounds, Instr.sliceBound, asIntOf, Sem.run_bind, run_underlying Tryd.underlying43, hj2, hn, sizeOf, typeInfo, hi, hm]
theorem rows_grown {m : Nat} {w w' : World} {b : Nat} {cap : Nat} {rs : List (List Value)} {row : Option Nat} (h : Rows' m w (some ⟨b, 0, none⟩) cap rs) (hg : w.grownBy w' row) (hne : some b ≠ row) : Rows' m w' (some ⟨b, 0, none⟩) cap rs := by
  refine ⟨h.le, fun k hk c v hv => ?_, h.each, h.nil0⟩
  obtain ⟨b', o', e, hc⟩ := h.cell k hk c v hv
  cases e
  exact ⟨b, 0, rfl, (hg.cell_far _ (lt_cell (q := ⟨b, 0 + k * m + c, none⟩) hc) hne).trans hc⟩

theorem rmadd_bad (w : World) (q : Nat) (l k : Int) (h : ¬ (0 ≤ l ∧ l ≤ 31 ∧ 1 ≤ k ∧ k ≤ 4)) :
    Calls Tryd.prog 16 #[.pointer (some ⟨q, 0, none⟩), .int .i64 l, .int .i64 k] w fun r w' => r = .returned (.int .i64 1) ∧ w' = w := by
  by_cases h1 : l < 0
  · clear h
    go_enter Tryd.func16, Tryd.ntmps16
    go_wp2
    go_ret
    exact ⟨rfl, rfl⟩
  by_cases h2 : 32 ≤ l
  · clear h
    go_enter Tryd.func16, Tryd.ntmps16
    go_wp2
    go_ret
    exact ⟨rfl, rfl⟩
  by_cases h3 : k < 1
  · clear h
    go_enter Tryd.func16, Tryd.ntmps16
    go_wp2
    go_ret
    exact ⟨rfl, rfl⟩
  have h4 : 4 < k := by omega
  clear h
  go_enter Tryd.func16, Tryd.ntmps16
  go_wp2
  go_ret
  exact ⟨rfl, rfl⟩

set_option maxHeartbeats 25600000 in
set_option maxRecDepth 20000 in
theorem rmadd_any (w : World) (q m : Nat) (L : List (Int × Int)) (hT : RT w q m L) (hm8 : m ≤ 8) (l k : Int) (hlk : 0 ≤ l ∧ l ≤ 31 ∧ 1 ≤ k ∧ k ≤ 4) (c : Nat) (L' : List (Int × Int)) (hy : ∀ (j : Nat) (y : Int), L[j]? = some (l, y) → c = 7 ∧ L' = L) (hf : (∀ i : Nat, i < L.length → ∀ x y, L[i]? = some (x, y) → x ≠ l) → m ≤ L.length → c = 6 ∧ L' = L)
    (ho : (∀ i : Nat, i < L.length → ∀ x y, L[i]? = some (x, y) → x ≠ l) → L.length < m → c = 0 ∧ ∃ lo hi, L = lo ++ hi ∧ L' = lo ++ [(l, k)] ++ hi ∧ (∀ x ∈ lo, x.1 < l) ∧ ∀ x ∈ hi, l < x.1) :
    Calls Tryd.prog 16 #[.pointer (some ⟨q, 0, none⟩), .int .i64 l, .int .i64 k] w fun r w' => r = .returned (.int .i64 c) ∧ RT w' q m L' ∧ Apart q (q + 1) w w' := by
  have HT := Hid.in hT
  obtain ⟨⟨ao, cap, hq, hO⟩, hle⟩ := hT
  have hc1 : w.cell? ⟨q, 1, none⟩ = some (.slice ao L.length cap) := blk_cell hq rfl
  have HQ := Hid.in (RT.above hq)
  have HQ0 : Hid (∀ W, Below w.heap.size w W → W.cell? ⟨q, 0, none⟩ = some (.int .i64 (m : Int))) := Hid.in (fun W hb => blk_cell ((hb.block q (blk_lt hq)).trans hq) rfl)
  have HO := Hid.in hO
  have HY := Hid.in hy
  have HF := Hid.in hf
  have HOK := Hid.in ho
  obtain ⟨N, hN⟩ : ∃ N, L.length = N := ⟨_, rfl⟩
  rw [hN] at hc1 HO hle HQ
  have HL := Hid.in hN
  have l0 : ¬ l < 0 := by omega
  have l1 : ¬ 32 ≤ l := by omega
  have k0 : ¬ k < 1 := by omega
  have k1 : ¬ 4 < k := by omega
  clear hq hO hy hf ho hN hlk
  go_enter Tryd.func16, Tryd.ntmps16
  go_wp2
  go_loopw [29] (fun c wr => ∃ j : Nat, j ≤ N ∧ c = .int .i64 (j : Int) ∧ (∀ i : Nat, i < j → ∀ x y, L[i]? = some (x, y) → x ≠ l) ∧ Below w.heap.size w wr) (fun c _ => N - (intOf c).toNat)
  case atStart => exact ⟨0, Nat.zero_le _, rfl, fun i hi => absurd hi (Nat.not_lt_zero _), Below.refl _ _⟩
  case round =>
    obtain ⟨j, hj, rfl, hno, hb⟩ := hrel
    have HB := Hid.in hb
    have HO' := Hid.in (OwnS.step HO.out hb)
    have HNO := Hid.in hno
    clear hb hno hc1 l0 l1 k0 k1
    by_cases hlt : j < N
    · obtain ⟨b1, x, y, rfl, x1, x2, hxy⟩ := OwnS.miss2 HO'.out j (by rw [HL.out]; exact hlt)
      have HXY := Hid.in hxy
      have i1 : (j : Int) < (N : Int) := by omega
      clear hxy
      by_cases hxl : x = l
      · subst hxl
        go_wp2
        go_ret
        obtain ⟨rfl, rfl⟩ := HY.out j y HXY.out
        exact ⟨rfl, HT.out.step (HB.out.alloc HB.out.size _), Apart.of_below (HB.out.alloc HB.out.size _)⟩
      · have hx0 : (x == l) = false := by simpa using hxl
        have HX := Hid.in hxl
        clear hxl
        go_wp2
        go_roundw
        case rel =>
          refine ⟨j + 1, by omega, by go_num, fun i hi x' y' h' => ?_, HB.out.alloc HB.out.size _⟩
          rcases Nat.lt_or_ge i j with h2 | h2
          · exact HNO.out i h2 x' y' h'
          · obtain rfl : i = j := by omega
            rw [HXY.out] at h'
            cases h'
            exact HX.out
        case measure => simp [intOf]; omega
    · obtain rfl : N = j := by omega
      have HNF : Hid (∀ i : Nat, i < L.length → ∀ x y, L[i]? = some (x, y) → x ≠ l) := Hid.in (by rw [HL.out]; exact HNO.out)
      clear HNO hlt hj
      rename World => wr
      have hm0 := HQ0.out wr HB.out
      have hm1 := (HQ.out wr HB.out).1
      go_upto_region 9 with fail
      by_cases hmn : m ≤ N
      · have HD : Hid (decide ((m : Int) ≤ (N : Int)) = true) := Hid.in (by simp; omega)
        obtain ⟨rfl, rfl⟩ := HF.out HNF.out (by rw [HL.out]; exact hmn)
        go_cut [47] (fun b wc => b = .bool true ∧ Below w.heap.size w wc)
        case first =>
          go_quiet (fail)
          go_wp2_with fail
          go_meet
          case rel => exact ⟨rfl, drewN_below HB.out _⟩
        case rest =>
          obtain ⟨rfl, hbx⟩ := hcut
          have HBX := Hid.in hbx
          clear hbx hm0 hm1
          go_wp2
          go_ret
          exact ⟨rfl, HT.out.step HBX.out, Apart.of_below HBX.out⟩
      · have HD : Hid (decide ((m : Int) ≤ (N : Int)) = false) := Hid.in (by simp; omega)
        obtain ⟨rfl, lo, hi, hLe, rfl, hlo, hhi⟩ := HOK.out HNF.out (by rw [HL.out]; omega)
        have HLE := Hid.in hLe
        have HLO := Hid.in hlo
        have HHI := Hid.in hhi
        clear hLe hlo hhi HF HOK HY
        go_cut [47] (fun b wc => b = .bool false ∧ Below w.heap.size w wc)
        case first =>
          go_quiet (fail)
          go_wp2_with fail
          go_meet
          case rel => exact ⟨rfl, drewN_below HB.out _⟩
        case rest =>
          obtain ⟨rfl, hbx⟩ := hcut
          have HBX := Hid.in hbx
          clear hbx hm0 hm1 HB HO' HD
          obtain ⟨J, hJ⟩ : ∃ J, lo.length = J := ⟨_, rfl⟩
          have HJ := Hid.in hJ
          have hJN : J ≤ N := by have := HL.out; rw [HLE.out, List.length_append] at this; omega
          have hN8 : N < 8 := by omega
          clear hJ hmn hm8
          go_wp2
          go_loopw [9] (fun c wv => ∃ i : Nat, i ≤ J ∧ c = .int .i64 (i : Int) ∧ Below w.heap.size w wv) (fun c _ => J - (intOf c).toNat)
          case atStart => exact ⟨0, Nat.zero_le _, rfl, HBX.out⟩
          case round =>
            obtain ⟨i, hi', rfl, hb⟩ := hrel
            have HB := Hid.in hb
            have HO' := Hid.in (OwnS.step HO.out hb)
            clear hb
            rename World => wv
            have hm1 := (HQ.out wv HB.out).1
            by_cases hiJ : i < J
            · obtain ⟨b1, x, y, rfl, x1, x2, hxy⟩ := OwnS.miss2 HO'.out i (by rw [HL.out]; omega)
              have hxl : x < l := by
                rw [HLE.out, List.getElem?_append_left (by rw [HJ.out]; exact hiJ)] at hxy
                exact HLO.out _ (List.mem_of_getElem? hxy)
              have i1 : (i : Int) < (N : Int) := by omega
              clear hxy
              go_wp2
              go_roundw
              case rel => exact ⟨i + 1, by omega, by go_num, HB.out⟩
              case measure => simp [intOf]; omega
            · obtain rfl : J = i := by omega
              clear hiJ hi'
              go_upto_region 12 with fail
              go_cut [66] (fun b wc => b = .bool false ∧ Below w.heap.size w wc)
              case first =>
                by_cases hJ2 : J < N
                · obtain ⟨b1, x, y, rfl, x1, x2, hxy⟩ := OwnS.miss2 HO'.out J (by rw [HL.out]; exact hJ2)
                  have hxl : ¬ x < l := by
                    rw [HLE.out, List.getElem?_append_right (by rw [HJ.out]; exact Nat.le_refl _)] at hxy
                    have := HHI.out _ (List.mem_of_getElem? hxy)
                    simp only [] at this
                    omega
                  have i1 : (J : Int) < (N : Int) := by omega
                  clear hxy
                  go_wp2_with fail
                  go_meet
                  case rel => exact ⟨rfl, HB.out⟩
                · have i1 : ¬ (J : Int) < (N : Int) := by omega
                  go_wp2_with fail
                  go_meet
                  case rel => exact ⟨rfl, HB.out⟩
              case rest =>
                obtain ⟨rfl, hbx⟩ := hcut
                have HWX := Hid.in hbx
                clear hbx hm1 HB HO' HBX
                go_upto_region 14 with fail
                have HOX := Hid.in (OwnS.step HO.out HWX.out)
                have hcap : N ≤ cap := by have := (OwnS.rows HOX.out (by decide) (mcs_one L)).le; rw [List.length_map, HL.out] at this; exact this
                have HRX : Hid (Rows' 2 wc ao cap ((L.map mc).take J)) := Hid.in ((OwnS.rows HOX.out (by decide) (mcs_one L)).take J)
                have HLJ : Hid (J = ((L.map mc).take J).length) := Hid.in (by rw [List.length_take, List.length_map, HL.out]; omega)
                have hs1 := slice_to ao N cap J (by omega)
                have hs2 := slice_from ao N cap J hJN
                have hRA := rows_from (j := J) (OwnS.rows HOX.out (by decide) (mcs_one L)) (by rw [List.length_map, HL.out]; exact hJN)
                obtain ⟨A, hA⟩ : ∃ A : Option Addr, (if cap = J then ao else ao.map (·.add (J * 2))) = A := ⟨_, rfl⟩
                rw [hA] at hRA hs2
                have HRA := Hid.in hRA
                have HLD : Hid (N - J = ((L.map mc).drop J).length) := Hid.in (by rw [List.length_drop, List.length_map, HL.out])
                clear hRA hA
                have hfz : ∀ W, Below wc.heap.size wc W → W.frozen? ⟨q, 1, none⟩ = false := fun W h => (HQ.out W (bstep HWX.out (Nat.le_refl _) h)).2.1
                have hkc : ∀ W, Below wc.heap.size wc W → W.cell? ⟨q, 1, none⟩ = some (.slice ao N cap) := fun W h => (HQ.out W (bstep HWX.out (Nat.le_refl _) h)).1
                have hbr : Below wc.heap.size wc wc := Below.refl _ _
                have hbd : ∀ W, Below wc.heap.size wc W → Below wc.heap.size wc W.drew := fun W h => h.drew
                have hba : ∀ W o, Below wc.heap.size wc W → Below wc.heap.size wc (W.alloc o) := fun W o h => h.alloc h.size o
                have fin5 : ∀ w5 ao5 c5, OwnS 47 2 w5 wc.heap.size ao5 (J + 1 + (N - J)) c5 ((L.map mc).take J ++ [mc (l, k)] ++ (L.map mc).drop J) → Below wc.heap.size wc w5 → RT (w5.setCell ⟨q, 1, none⟩ (.slice ao5 (J + 1 + (N - J)) c5)) q m (lo ++ [(l, k)] ++ hi) ∧ Apart q (q + 1) w (w5.setCell ⟨q, 1, none⟩ (.slice ao5 (J + 1 + (N - J)) c5)) := by
                  intro w5 ao5 c5 h5 b5
                  have hw5 := (HQ.out w5 (bstep HWX.out (Nat.le_refl _) b5)).2.2
                  have hqx : q < wc.heap.size := Nat.lt_of_lt_of_le HT.out.lt HWX.out.size
                  refine ⟨RT.put hw5 (B := wc.heap.size) ?_ hqx ?_, (Apart.of_below (bstep HWX.out (Nat.le_refl _) b5)).setCell _ (Nat.le_refl _) (by omega)⟩
                  · unfold OwnM
                    have e1 : (L.map mc).take J = lo.map mc := by rw [HLE.out, List.map_append, List.take_append_of_le_length (by rw [List.length_map, HJ.out]; exact Nat.le_refl _), List.take_of_length_le (by rw [List.length_map, HJ.out]; exact Nat.le_refl _)]
                    have e2 : (L.map mc).drop J = hi.map mc := by rw [HLE.out, List.map_append, List.drop_append_of_le_length (by rw [List.length_map, HJ.out]; exact Nat.le_refl _), List.drop_of_length_le (by rw [List.length_map, HJ.out]; exact Nat.le_refl _), List.nil_append]
                    rw [e1, e2] at h5
                    simpa using h5
                  · have := HL.out
                    rw [HLE.out, List.length_append] at this
                    simp only [List.length_append, List.length_singleton]
                    omega
                refine wp_region_but (cellIs q 1 (.slice ao N cap)) 23 (by kernel_rfl) ?_
                have HS : Hid (cellIs q 1 (.slice ao N cap) wc.drew) := Hid.in (hkc _ hbr.drew)
                refine wpBut_take (i := 0) (v := ?_) rfl (by kernel_rfl) (by kernel_rfl) (by exact fun _ _ _ h => h) HS.out (Or.inl ⟨by rfl, ?_⟩) ?_
                case refine_2 => (intro w hSw; simp only [cellIs] at hSw; go_simp; try with_reducible rfl)
                simp only [Act.put, List.setIfInBounds_toArray, List.set_cons_zero, List.set_cons_succ]
                refine wpBut_take (i := 2) (v := ?_) rfl (by kernel_rfl) (by kernel_rfl) (by exact fun _ _ _ h => h) HS.out (Or.inl ⟨by rfl, ?_⟩) ?_
                case refine_2 => (intro w hSw; simp only [cellIs] at hSw; go_simp; try with_reducible rfl)
                simp only [Act.put, List.setIfInBounds_toArray, List.set_cons_zero, List.set_cons_succ]
                refine wpBut_take (i := 3) (v := ?_) rfl (by kernel_rfl) (by kernel_rfl) (by exact fun _ _ _ h => h) HS.out (Or.inl ⟨by rfl, ?_⟩) ?_
                case refine_2 => (intro w hSw; simp only [cellIs] at hSw; go_simp; try with_reducible rfl)
                simp only [Act.put, List.setIfInBounds_toArray, List.set_cons_zero, List.set_cons_succ]
                refine wpBut_take (i := 4) (v := ?_) rfl (by kernel_rfl) (by kernel_rfl) (by exact fun _ _ _ h => h) HS.out (Or.inl ⟨by rfl, ?_⟩) ?_
                case refine_2 => (intro w hSw; simp only [cellIs] at hSw; go_simp; try with_reducible rfl)
                simp only [Act.put, List.setIfInBounds_toArray, List.set_cons_zero, List.set_cons_succ]
                refine wpBut_take (i := 5) (v := ?_) rfl (by kernel_rfl) (by kernel_rfl) (by exact fun _ _ _ h => h) HS.out (Or.inl ⟨by rfl, ?_⟩) ?_
                case refine_2 => (intro w hSw; simp only [cellIs] at hSw; go_simp; try with_reducible rfl)
                simp only [Act.put, List.setIfInBounds_toArray, List.set_cons_zero, List.set_cons_succ]
                refine wpBut_take (i := 6) (v := ?_) rfl (by kernel_rfl) (by kernel_rfl) (by exact fun _ _ _ h => h) HS.out (Or.inl ⟨by rfl, ?_⟩) ?_
                case refine_2 => (intro w hSw; simp only [cellIs] at hSw; go_simp; try with_reducible rfl)
                simp only [Act.put, List.setIfInBounds_toArray, List.set_cons_zero, List.set_cons_succ]
                refine wpBut_take (i := 7) (v := ?_) rfl (by kernel_rfl) (by kernel_rfl) (by exact fun _ _ _ h => h) HS.out (Or.inl ⟨by rfl, ?_⟩) ?_
                case refine_2 => (intro w hSw; simp only [cellIs] at hSw; go_simp; try with_reducible rfl)
                simp only [Act.put, List.setIfInBounds_toArray, List.set_cons_zero, List.set_cons_succ]
                refine wpBut_take (i := 9) (v := ?_) rfl (by kernel_rfl) (by kernel_rfl) (by exact fun _ _ _ h => h) HS.out (Or.inl ⟨by rfl, ?_⟩) ?_
                case refine_2 => (intro w hSw; simp only [cellIs] at hSw; go_simp; try with_reducible rfl)
                simp only [Act.put, List.setIfInBounds_toArray, List.set_cons_zero, List.set_cons_succ]
                refine wpBut_take (i := 10) (v := ?_) rfl (by kernel_rfl) (by kernel_rfl) (by exact fun _ _ _ h => h) HS.out (Or.inl ⟨by rfl, ?_⟩) ?_
                case refine_2 => (intro w hSw; simp only [cellIs] at hSw; go_simp; try with_reducible rfl)
                simp only [Act.put, List.setIfInBounds_toArray, List.set_cons_zero, List.set_cons_succ]
                refine wpBut_take (i := 11) (v := ?_) rfl (by kernel_rfl) (by kernel_rfl) (by exact fun _ _ _ h => h) HS.out (Or.inl ⟨by rfl, ?_⟩) ?_
                case refine_2 => (intro w hSw; simp only [cellIs] at hSw; go_simp; try with_reducible rfl)
                simp only [Act.put, List.setIfInBounds_toArray, List.set_cons_zero, List.set_cons_succ]
                refine wpBut_take (i := 14) (v := ?_) rfl (by kernel_rfl) (by kernel_rfl) (by exact fun _ _ _ h => h) HS.out (Or.inl ⟨by rfl, ?_⟩) ?_
                case refine_2 => (intro w hSw; simp only [cellIs] at hSw; go_simp; try with_reducible rfl)
                simp only [Act.put, List.setIfInBounds_toArray, List.set_cons_zero, List.set_cons_succ]
                refine wpBut_take (i := 15) (v := ?_) rfl (by kernel_rfl) (by kernel_rfl) (by exact fun _ _ _ h => h) HS.out (Or.inl ⟨by rfl, ?_⟩) ?_
                case refine_2 => (intro w hSw; simp only [cellIs] at hSw; go_simp; try with_reducible rfl)
                simp only [Act.put, List.setIfInBounds_toArray, List.set_cons_zero, List.set_cons_succ]
                refine wpBut_take (i := 16) (v := ?_) rfl (by kernel_rfl) (by kernel_rfl) (by exact fun _ _ _ h => h) HS.out (Or.inl ⟨by rfl, ?_⟩) ?_
                case refine_2 => (intro w hSw; simp only [cellIs] at hSw; go_simp; try with_reducible rfl)
                simp only [Act.put, List.setIfInBounds_toArray, List.set_cons_zero, List.set_cons_succ]
                refine wpBut_take (i := 17) (v := ?_) rfl (by kernel_rfl) (by kernel_rfl) (by exact fun _ _ _ h => h) HS.out (Or.inl ⟨by rfl, ?_⟩) ?_
                case refine_2 => (intro w hSw; simp only [cellIs] at hSw; go_simp; try with_reducible rfl)
                simp only [Act.put, List.setIfInBounds_toArray, List.set_cons_zero, List.set_cons_succ]
                refine wpBut_take (i := 18) (v := ?_) rfl (by kernel_rfl) (by kernel_rfl) (by exact fun _ _ _ h => h) HS.out (Or.inl ⟨by rfl, ?_⟩) ?_
                case refine_2 => (intro w hSw; simp only [cellIs] at hSw; go_simp; try with_reducible rfl)
                simp only [Act.put, List.setIfInBounds_toArray, List.set_cons_zero, List.set_cons_succ]
                refine wpBut_take (i := 19) (v := ?_) rfl (by kernel_rfl) (by kernel_rfl) (by exact fun _ _ _ h => h) HS.out (Or.inl ⟨by rfl, ?_⟩) ?_
                case refine_2 => (intro w hSw; simp only [cellIs] at hSw; go_simp; try with_reducible rfl)
                simp only [Act.put, List.setIfInBounds_toArray, List.set_cons_zero, List.set_cons_succ]
                refine wpBut_two (i := 1) (j := 12) rfl rfl (by kernel_rfl) (fun K HK => ?_) (fun K HK => ?_)
                · go_simp
                  refine HK.out _ _ (fun _ => hkc _ (hba _ _ hbr.drew)) ?_
                  clear HK K
                  have HO1 : Hid (OwnS 47 2 (wc.alloc (.cells #[] 47)).drew wc.heap.size (some ⟨wc.heap.size, 0, none⟩) 0 0 []) := Hid.in ((OwnS.lit0 _ _ wc _ (Nat.le_refl _)).step (Below.refl _ _).drew)
                  have HB1 : Hid (Below wc.heap.size wc (wc.alloc (.cells #[] 47)).drew) := Hid.in (below_alloc _ _).drew
                  refine wpBut_two (i := 8) (j := 12) rfl rfl (by kernel_rfl) (fun K HK => ?_) (fun K HK => ?_)
                  · clear HS
                    refine step_concatS rfl 43 47 2 16 _ (.tmp 70) (.tmp 76) rfl Tryd.underlying43 Tryd.infoRMiss rfl (by decide) (by decide) wc.heap.size wc _ ao 0 0 J cap [] ((L.map mc).take J) (by rfl) HO1.out (by rfl) HLJ.out (HRX.out.step HB1.out) HB1.out HB1.out.size (by omega) ?_
                    intro ao2 c2 w2 HO2 HB2 _
                    refine HK.out _ _ (fun _ => hkc _ HB2.out) ?_
                    simp only [Act.put, List.setIfInBounds_toArray, List.set_cons_zero, List.set_cons_succ]
                    simp only [Nat.zero_add, List.nil_append] at HO2 ⊢
                    clear HK K HO1 HB1
                    refine wpBut_one (i := 12) rfl (by kernel_rfl) (fun K HK => ?_)
                    go_simp
                    refine HK.out _ _ (fun _ => hkc _ (hba _ _ HB2.out)) ?_
                    clear HK K
                    have HR2 := Hid.in (Rows'.lit 2 w2 47 (mc (l, k)) _ rfl rfl (mc_one _))
                    replace HO2 := Hid.in (OwnS.step HO2.out (below_alloc w2 (.cells (mc (l, k)).toArray 47)))
                    replace HB2 := Hid.in (hba _ (.cells (mc (l, k)).toArray 47) HB2.out)
                    refine wpBut_one (i := 13) rfl (by kernel_rfl) (fun K HK => ?_)
                    refine step_concatS rfl 43 47 2 16 _ (.tmp 77) (.tmp 81) rfl Tryd.underlying43 Tryd.infoRMiss rfl (by decide) (by decide) wc.heap.size wc ao2 _ J c2 1 1 _ [mc (l, k)] (by rfl) HO2.out (by rfl) rfl HR2.out HB2.out HB2.out.size (by omega) ?_
                    intro ao4 c4 w4 HO4 HB4 _
                    refine HK.out _ _ (fun _ => hkc _ HB4.out) ?_
                    simp only [Act.put, List.setIfInBounds_toArray, List.set_cons_zero, List.set_cons_succ]
                    clear HK K
                    refine wpBut_one (i := 20) rfl (by kernel_rfl) (fun K HK => ?_)
                    refine step_concatS rfl 43 47 2 16 _ (.tmp 82) (.tmp 88) rfl Tryd.underlying43 Tryd.infoRMiss rfl (by decide) (by decide) wc.heap.size wc ao4 A (J + 1) c4 (N - J) (cap - J) _ ((L.map mc).drop J) (by rfl) HO4.out (by rfl) HLD.out (HRA.out.step HB4.out) HB4.out HB4.out.size (by omega) ?_
                    intro ao5 c5 w5 HO5 HB5 _
                    refine HK.out _ _ (fun _ => hkc _ HB5.out) ?_
                    simp only [Act.put, List.setIfInBounds_toArray, List.set_cons_zero, List.set_cons_succ]
                    clear HK K
                    have HS : Hid (cellIs q 1 (.slice ao N cap) w5) := Hid.in (hkc _ HB5.out)
                    refine wpBut_take (i := 21) (v := ?_) rfl (by kernel_rfl) (by kernel_rfl) (by exact fun _ _ _ h => h) HS.out (Or.inl ⟨by rfl, ?_⟩) ?_
                    case refine_2 => (intro w hSw; simp only [cellIs] at hSw; go_simp; try with_reducible rfl)
                    simp only [Act.put, List.setIfInBounds_toArray, List.set_cons_zero, List.set_cons_succ]
                    refine wpBut_take (i := 22) (v := ?_) rfl (by kernel_rfl) (by kernel_rfl) (by exact fun _ _ _ h => h) HS.out (Or.inl ⟨by rfl, ?_⟩) ?_
                    case refine_2 => (intro w hSw; simp only [cellIs] at hSw; go_simp; try with_reducible rfl)
                    simp only [Act.put, List.setIfInBounds_toArray, List.set_cons_zero, List.set_cons_succ]
                    refine wpBut_one (i := 23) rfl (by kernel_rfl) (fun K HK => ?_)
                    have hz1 := hkc _ HB5.out
                    have hz2 := hfz _ HB5.out
                    go_simp
                    refine HK.out _ _ (fun h => absurd rfl h) ?_
                    clear HK K
                    refine wpBut_done (by kernel_rfl) ?_ _
                    have HFIN := Hid.in (fin5 w5 ao5 c5 HO5.out HB5.out)
                    clear hz1 hz2 hkc hfz hbr hbd hba HS fin5
                    go_wp2
                    go_ret
                    exact ⟨rfl, by simpa using HFIN.out.1, by simpa using HFIN.out.2⟩
                  · clear HS
                    go_simp
                    refine HK.out _ _ (fun _ => hkc _ (hba _ _ HB1.out)) ?_
                    clear HK K
                    have HR1 := Rows'.lit 2 (wc.alloc (.cells #[] 47)).drew 47 (mc (l, k)) _ rfl rfl (mc_one _)
                    rw [show (wc.alloc (.cells #[] 47)).drew.heap.size = wc.heap.size + 1 by simp] at HR1
                    replace HR1 := Hid.in HR1
                    replace HO1 := Hid.in (OwnS.step HO1.out (below_alloc _ (.cells (mc (l, k)).toArray 47)))
                    replace HB1 := Hid.in (hba _ (.cells (mc (l, k)).toArray 47) HB1.out)
                    refine wpBut_one (i := 8) rfl (by kernel_rfl) (fun K HK => ?_)
                    refine step_concatS rfl 43 47 2 16 _ (.tmp 70) (.tmp 76) rfl Tryd.underlying43 Tryd.infoRMiss rfl (by decide) (by decide) wc.heap.size wc (some ⟨wc.heap.size, 0, none⟩) ao 0 0 J cap [] ((L.map mc).take J) (by rfl) HO1.out (by rfl) HLJ.out (HRX.out.step HB1.out) HB1.out HB1.out.size (by omega) ?_
                    intro ao2 c2 w2 HO2 HB2 HG2
                    have HR2 := Hid.in (rows_grown HR1.out HG2.out (by simp [oblk]))
                    refine HK.out _ _ (fun _ => hkc _ HB2.out) ?_
                    simp only [Act.put, List.setIfInBounds_toArray, List.set_cons_zero, List.set_cons_succ]
                    simp only [Nat.zero_add, List.nil_append] at HO2 ⊢
                    clear HK K HO1 HB1
                    refine wpBut_one (i := 13) rfl (by kernel_rfl) (fun K HK => ?_)
                    refine step_concatS rfl 43 47 2 16 _ (.tmp 77) (.tmp 81) rfl Tryd.underlying43 Tryd.infoRMiss rfl (by decide) (by decide) wc.heap.size wc ao2 _ J c2 1 1 _ [mc (l, k)] (by rfl) HO2.out (by rfl) rfl HR2.out HB2.out HB2.out.size (by omega) ?_
                    intro ao4 c4 w4 HO4 HB4 _
                    refine HK.out _ _ (fun _ => hkc _ HB4.out) ?_
                    simp only [Act.put, List.setIfInBounds_toArray, List.set_cons_zero, List.set_cons_succ]
                    clear HK K
                    refine wpBut_one (i := 20) rfl (by kernel_rfl) (fun K HK => ?_)
                    refine step_concatS rfl 43 47 2 16 _ (.tmp 82) (.tmp 88) rfl Tryd.underlying43 Tryd.infoRMiss rfl (by decide) (by decide) wc.heap.size wc ao4 A (J + 1) c4 (N - J) (cap - J) _ ((L.map mc).drop J) (by rfl) HO4.out (by rfl) HLD.out (HRA.out.step HB4.out) HB4.out HB4.out.size (by omega) ?_
                    intro ao5 c5 w5 HO5 HB5 _
                    refine HK.out _ _ (fun _ => hkc _ HB5.out) ?_
                    simp only [Act.put, List.setIfInBounds_toArray, List.set_cons_zero, List.set_cons_succ]
                    clear HK K
                    have HS : Hid (cellIs q 1 (.slice ao N cap) w5) := Hid.in (hkc _ HB5.out)
                    refine wpBut_take (i := 21) (v := ?_) rfl (by kernel_rfl) (by kernel_rfl) (by exact fun _ _ _ h => h) HS.out (Or.inl ⟨by rfl, ?_⟩) ?_
                    case refine_2 => (intro w hSw; simp only [cellIs] at hSw; go_simp; try with_reducible rfl)
                    simp only [Act.put, List.setIfInBounds_toArray, List.set_cons_zero, List.set_cons_succ]
                    refine wpBut_take (i := 22) (v := ?_) rfl (by kernel_rfl) (by kernel_rfl) (by exact fun _ _ _ h => h) HS.out (Or.inl ⟨by rfl, ?_⟩) ?_
                    case refine_2 => (intro w hSw; simp only [cellIs] at hSw; go_simp; try with_reducible rfl)
                    simp only [Act.put, List.setIfInBounds_toArray, List.set_cons_zero, List.set_cons_succ]
                    refine wpBut_one (i := 23) rfl (by kernel_rfl) (fun K HK => ?_)
                    have hz1 := hkc _ HB5.out
                    have hz2 := hfz _ HB5.out
                    go_simp
                    refine HK.out _ _ (fun h => absurd rfl h) ?_
                    clear HK K
                    refine wpBut_done (by kernel_rfl) ?_ _
                    have HFIN := Hid.in (fin5 w5 ao5 c5 HO5.out HB5.out)
                    clear hz1 hz2 hkc hfz hbr hbd hba HS fin5
                    go_wp2
                    go_ret
                    exact ⟨rfl, by simpa using HFIN.out.1, by simpa using HFIN.out.2⟩
                · clear HS
                  go_simp
                  refine HK.out _ _ (fun _ => hkc _ (hba _ _ hbr.drew)) ?_
                  clear HK K
                  have HR1 := Hid.in ((Rows'.lit 2 wc 47 (mc (l, k)) _ rfl rfl (mc_one _)).step (Below.refl _ _).drew)
                  have HB0 : Hid (Below wc.heap.size wc (wc.alloc (.cells (mc (l, k)).toArray 47)).drew) := Hid.in (below_alloc _ _).drew
                  refine wpBut_one (i := 1) rfl (by kernel_rfl) (fun K HK => ?_)
                  go_simp
                  refine HK.out _ _ (fun _ => hkc _ (hba _ _ HB0.out)) ?_
                  clear HK K
                  replace HR1 := Hid.in (HR1.out.step (below_alloc _ (.cells #[] 47)))
                  have HO1 := OwnS.low (OwnS.lit0 47 2 (wc.alloc (.cells (mc (l, k)).toArray 47)).drew _ (Nat.le_refl _)) HB0.out.size
                  rw [show (wc.alloc (.cells (mc (l, k)).toArray 47)).drew.heap.size = wc.heap.size + 1 by simp] at HO1
                  replace HO1 := Hid.in HO1
                  have HB1 := Hid.in (hba _ (.cells #[] 47) HB0.out)
                  refine wpBut_one (i := 8) rfl (by kernel_rfl) (fun K HK => ?_)
                  refine step_concatS rfl 43 47 2 16 _ (.tmp 70) (.tmp 76) rfl Tryd.underlying43 Tryd.infoRMiss rfl (by decide) (by decide) wc.heap.size wc _ ao 0 0 J cap [] ((L.map mc).take J) (by rfl) HO1.out (by rfl) HLJ.out (HRX.out.step HB1.out) HB1.out HB1.out.size (by omega) ?_
                  intro ao2 c2 w2 HO2 HB2 HG2
                  have HR2 := Hid.in (rows_grown HR1.out HG2.out (by simp [oblk]))
                  refine HK.out _ _ (fun _ => hkc _ HB2.out) ?_
                  simp only [Act.put, List.setIfInBounds_toArray, List.set_cons_zero, List.set_cons_succ]
                  simp only [Nat.zero_add, List.nil_append] at HO2 ⊢
                  clear HK K HO1 HB1
                  refine wpBut_one (i := 13) rfl (by kernel_rfl) (fun K HK => ?_)
                  refine step_concatS rfl 43 47 2 16 _ (.tmp 77) (.tmp 81) rfl Tryd.underlying43 Tryd.infoRMiss rfl (by decide) (by decide) wc.heap.size wc ao2 _ J c2 1 1 _ [mc (l, k)] (by rfl) HO2.out (by rfl) rfl HR2.out HB2.out HB2.out.size (by omega) ?_
                  intro ao4 c4 w4 HO4 HB4 _
                  refine HK.out _ _ (fun _ => hkc _ HB4.out) ?_
                  simp only [Act.put, List.setIfInBounds_toArray, List.set_cons_zero, List.set_cons_succ]
                  clear HK K
                  refine wpBut_one (i := 20) rfl (by kernel_rfl) (fun K HK => ?_)
                  refine step_concatS rfl 43 47 2 16 _ (.tmp 82) (.tmp 88) rfl Tryd.underlying43 Tryd.infoRMiss rfl (by decide) (by decide) wc.heap.size wc ao4 A (J + 1) c4 (N - J) (cap - J) _ ((L.map mc).drop J) (by rfl) HO4.out (by rfl) HLD.out (HRA.out.step HB4.out) HB4.out HB4.out.size (by omega) ?_
                  intro ao5 c5 w5 HO5 HB5 _
                  refine HK.out _ _ (fun _ => hkc _ HB5.out) ?_
                  simp only [Act.put, List.setIfInBounds_toArray, List.set_cons_zero, List.set_cons_succ]
                  clear HK K
                  have HS : Hid (cellIs q 1 (.slice ao N cap) w5) := Hid.in (hkc _ HB5.out)
                  refine wpBut_take (i := 21) (v := ?_) rfl (by kernel_rfl) (by kernel_rfl) (by exact fun _ _ _ h => h) HS.out (Or.inl ⟨by rfl, ?_⟩) ?_
                  case refine_2 => (intro w hSw; simp only [cellIs] at hSw; go_simp; try with_reducible rfl)
                  simp only [Act.put, List.setIfInBounds_toArray, List.set_cons_zero, List.set_cons_succ]
                  refine wpBut_take (i := 22) (v := ?_) rfl (by kernel_rfl) (by kernel_rfl) (by exact fun _ _ _ h => h) HS.out (Or.inl ⟨by rfl, ?_⟩) ?_
                  case refine_2 => (intro w hSw; simp only [cellIs] at hSw; go_simp; try with_reducible rfl)
                  simp only [Act.put, List.setIfInBounds_toArray, List.set_cons_zero, List.set_cons_succ]
                  refine wpBut_one (i := 23) rfl (by kernel_rfl) (fun K HK => ?_)
                  have hz1 := hkc _ HB5.out
                  have hz2 := hfz _ HB5.out
                  go_simp
                  refine HK.out _ _ (fun h => absurd rfl h) ?_
                  clear HK K
                  refine wpBut_done (by kernel_rfl) ?_ _
                  have HFIN := Hid.in (fin5 w5 ao5 c5 HO5.out HB5.out)
                  clear hz1 hz2 hkc hfz hbr hbd hba HS fin5
                  go_wp2
                  go_ret
                  exact ⟨rfl, by simpa using HFIN.out.1, by simpa using HFIN.out.2⟩

end Go.Proofs.YtbljopjjmlacpaaDoor

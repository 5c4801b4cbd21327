/- DERIVED of the program: Get, Drop, Put by their contracts. Own work. -/
import Derived.Test.YtcackmmfnojpfaaDoorArB
namespace Go.Proofs.YtcackmmfnojpfaaDoor
open Go.RowKit Go.Extern.Stop Go.Stop Go.Extern

theorem found {l : Int} {es : List En} (h : ¬ fnd l es < 0) : ∃ i, ∃ hi : i < es.length, fnd l es = (i : Int) ∧ (es[i]).state ≠ 0 ∧ (es[i]).line = l := by
  obtain ⟨i, hi, h1, h2, _⟩ := ix_pos h
  simp only [En.is, Bool.and_eq_true, bne_iff_ne, ne_eq, beq_iff_eq] at h2
  exact ⟨i, hi, h1, h2.1, h2.2⟩

/-- An entry stored where there is one. -/
theorem ECells.stored {w : World} {b o : Nat} {e0 : En} (h : ECells w b o e0) (hf : ∀ i, w.frozen? ⟨b, i, none⟩ = false) (e : En) : ECells (w.setCells b o e.ec) b o e := by
  have ht : w.there b o e.ec.length := by
    intro j hj
    refine ⟨?_, hf _⟩
    rw [ec_len] at hj
    obtain ⟨h0, h1, h2, h3, h4, h5, h6, h7, h8, h9⟩ := h
    have h10 : j = 0 ∨ j = 1 ∨ j = 2 ∨ j = 3 ∨ j = 4 ∨ j = 5 ∨ j = 6 ∨ j = 7 ∨ j = 8 ∨ j = 9 := by omega
    rcases h10 with rfl | rfl | rfl | rfl | rfl | rfl | rfl | rfl | rfl | rfl
    · rw [Nat.add_zero, h0]; rfl
    · rw [h1]; rfl
    · rw [h2]; rfl
    · rw [h3]; rfl
    · rw [h4]; rfl
    · rw [h5]; rfl
    · rw [h6]; rfl
    · rw [h7]; rfl
    · rw [h8]; rfl
    · rw [h9]; rfl
  have f := World.rangeAt_setCells_same w b o e.ec ht
  exact ⟨f 0 _ rfl, f 1 _ rfl, f 2 _ rfl, f 3 _ rfl, f 4 _ rfl, f 5 _ rfl, f 6 _ rfl, f 7 _ rfl, f 8 _ rfl, f 9 _ rfl⟩

abbrev zeroObj : Obj := .cells #[.int .i64 0, .int .i64 0, .int .i64 0, .int .i64 0, .int .u32 0, .int .u32 0, .int .u32 0, .int .u32 0, .bool false, .bool false] 32

theorem zero_cells {w w1 : World} (hb : Below (w.alloc zeroObj).heap.size (w.alloc zeroObj) w1) : ECells w1 w.heap.size 0 En.zero ∧ ∀ i, w1.frozen? ⟨w.heap.size, i, none⟩ = false := by
  have h : w1.heap[w.heap.size]? = some zeroObj := (hb.block _ (by simp)).trans (heap_alloc_new _ _)
  exact ⟨⟨blk_cell h rfl, blk_cell h rfl, blk_cell h rfl, blk_cell h rfl, blk_cell h rfl, blk_cell h rfl, blk_cell h rfl, blk_cell h rfl, blk_cell h rfl, blk_cell h rfl⟩, fun i => blk_free h⟩

theorem get_any (w : World) (B k : Nat) (A : List St) (hA : Arr w B k A) (l : Int) :
    Calls Tryd.prog 20 #[.pointer (some ⟨B + 1, 0, none⟩), .int .i64 l] w fun r w' => r = .returned (.tuple #[(getA A l).1.val, .bool (getA A l).2]) ∧ Below w.heap.size w w' := by
  have HA := Hid.in hA
  have HZ : Hid (Below w.heap.size w (w.alloc zeroObj)) := Hid.in (below_alloc _ _)
  cases hv : vld l with
  | false =>
    have HV := Hid.in hv
    have HR : Hid (getA A l = (En.zero, false)) := Hid.in (by simp [getA, hv])
    rw [HR.out]
    clear hv hA
    go_enter Tryd.func20, Tryd.ntmps20
    go_wp2_with fail
    refine (find_out _ B k A (HA.out.step HZ.out) l HV.out).mono ?_
    rintro r w1 ⟨rfl, hb⟩
    obtain ⟨hc, hf⟩ := zero_cells hb
    have HB := Hid.in (bstep HZ.out (Nat.le_refl _) hb)
    have HX := Hid.in (hc.stored hf En.zero)
    obtain ⟨c0, c1, c2, c3, c4, c5, c6, c7, c8, c9⟩ := hc
    simp only [En.zero, Nat.zero_add] at c0 c1 c2 c3 c4 c5 c6 c7 c8 c9
    clear hb
    go_wp2
    change bodyPost _ _ _ _ _ (w1.setCells w.heap.size 0 En.zero.ec)
    clear c0 c1 c2 c3 c4 c5 c6 c7 c8 c9 hf
    obtain ⟨c0, c1, c2, c3, c4, c5, c6, c7, c8, c9⟩ := HX.out
    simp only [En.zero, Nat.zero_add] at c0 c1 c2 c3 c4 c5 c6 c7 c8 c9
    exact bodyPost_ret (v := .tuple #[En.zero.val, .bool false]) (by simp [results, Tryd.results20, go_sem, En.zero, c0, c1, c2, c3, c4, c5, c6, c7, c8, c9]) rfl ⟨rfl, belowSetCells (Nat.le_refl _) _ _ _ HB.out⟩
  | true =>
    have HS := Hid.in (set_home hA.nn hv)
    have HG := Hid.in (stA_get hA.pos.1 l)
    obtain ⟨b, es, hst⟩ : ∃ b es, stA A l = (b, es) := ⟨_, _, rfl⟩
    have HR : Hid (getA A l = if fnd l es < 0 then (En.zero, false) else (es.getD (fnd l es).toNat En.zero, true)) := Hid.in (by simp [getA, hv, hst])
    rw [hst] at HG
    clear hv hA hst
    generalize hm A l = h at HS HG
    by_cases hz : fnd l es < 0
    · rw [HR.out, if_pos hz]
      clear HR
      obtain ⟨f, hf⟩ : ∃ f, fnd l es = f := ⟨_, rfl⟩
      rw [hf] at hz
      have HF := Hid.in hf
      clear hf
      go_enter Tryd.func20, Tryd.ntmps20
      go_wp2_with fail
      refine (find_in _ B k A (HA.out.step HZ.out) l h b es HS.out HG.out).mono ?_
      rw [HF.out]
      rintro r w1 ⟨rfl, hb⟩
      obtain ⟨hc, hf⟩ := zero_cells hb
      have HB := Hid.in (bstep HZ.out (Nat.le_refl _) hb)
      have HX := Hid.in (hc.stored hf En.zero)
      obtain ⟨c0, c1, c2, c3, c4, c5, c6, c7, c8, c9⟩ := hc
      simp only [En.zero, Nat.zero_add] at c0 c1 c2 c3 c4 c5 c6 c7 c8 c9
      clear hb
      go_wp2
      change bodyPost _ _ _ _ _ (w1.setCells w.heap.size 0 En.zero.ec)
      clear c0 c1 c2 c3 c4 c5 c6 c7 c8 c9 hf
      obtain ⟨c0, c1, c2, c3, c4, c5, c6, c7, c8, c9⟩ := HX.out
      simp only [En.zero, Nat.zero_add] at c0 c1 c2 c3 c4 c5 c6 c7 c8 c9
      exact bodyPost_ret (v := .tuple #[En.zero.val, .bool false]) (by simp [results, Tryd.results20, go_sem, En.zero, c0, c1, c2, c3, c4, c5, c6, c7, c8, c9]) rfl ⟨rfl, belowSetCells (Nat.le_refl _) _ _ _ HB.out⟩
    · rw [HR.out, if_neg hz]
      clear HR
      obtain ⟨i, hi, hfi, _, _⟩ := found hz
      rw [hfi, Int.toNat_natCast, List.getD_eq_getElem?_getD, List.getElem?_eq_getElem hi]
      simp only [Option.getD_some]
      obtain ⟨e, he⟩ : ∃ e, es[i] = e := ⟨_, rfl⟩
      rw [he]
      have HE := Hid.in he
      have HF := Hid.in hfi
      clear hz he hfi
      have hA1 := HA.out.step HZ.out
      obtain ⟨k0, k1, k2, _, hk, hl⟩ := hA1.hdr HG.out
      obtain ⟨p1, p2, p3, p4⟩ := hA1.pos
      have hik : (i : Int) < (k : Int) := by omega
      have hlA : (h : Int) < (A.length : Int) := by omega
      have HK := Hid.in hk
      clear hA1 hk k0 k1 k2
      go_enter Tryd.func20, Tryd.ntmps20
      go_wp2_with fail
      refine (find_in _ B k A (HA.out.step HZ.out) l h b es HS.out HG.out).mono ?_
      rw [HF.out]
      rintro r w1 ⟨rfl, hb⟩
      have hA2 := (HA.out.step HZ.out).step hb
      obtain ⟨k0, _, k2, _, _, _⟩ := hA2.hdr HG.out
      have g := hA2.ent HG.out i hi
      rw [HE.out] at g
      obtain ⟨g0, g1, g2, g3, g4, g5, g6, g7, g8, g9⟩ := g
      obtain ⟨hc, hf⟩ := zero_cells hb
      have HB := Hid.in (bstep HZ.out (Nat.le_refl _) hb)
      have HX := Hid.in (hc.stored hf e)
      obtain ⟨e0, e1, e2, e3, e4, e5, e6, e7, e8, e9⟩ := e
      obtain ⟨c0, c1, c2, c3, c4, c5, c6, c7, c8, c9⟩ := hc
      simp only [En.zero, Nat.zero_add] at c0 c1 c2 c3 c4 c5 c6 c7 c8 c9
      simp only [] at g0 g1 g2 g3 g4 g5 g6 g7 g8 g9
      clear hb hA2
      go_wp2
      change bodyPost _ _ _ _ _ (w1.setCells w.heap.size 0 (En.mk e0 e1 e2 e3 e4 e5 e6 e7 e8 e9).ec)
      clear c0 c1 c2 c3 c4 c5 c6 c7 c8 c9 g0 g1 g2 g3 g4 g5 g6 g7 g8 g9 hf
      obtain ⟨c0, c1, c2, c3, c4, c5, c6, c7, c8, c9⟩ := HX.out
      simp only [Nat.zero_add] at c0 c1 c2 c3 c4 c5 c6 c7 c8 c9
      exact bodyPost_ret (v := .tuple #[(En.mk e0 e1 e2 e3 e4 e5 e6 e7 e8 e9).val, .bool true]) (by simp [results, Tryd.results20, go_sem, c0, c1, c2, c3, c4, c5, c6, c7, c8, c9]) rfl ⟨rfl, belowSetCells (Nat.le_refl _) _ _ _ HB.out⟩

end Go.Proofs.YtcackmmfnojpfaaDoor

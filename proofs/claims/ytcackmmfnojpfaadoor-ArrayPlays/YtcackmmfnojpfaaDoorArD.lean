/- DERIVED of the program: Drop, Put by their contracts. Own work. -/
import Derived.Test.YtcackmmfnojpfaaDoorArC
namespace Go.Proofs.YtcackmmfnojpfaaDoor
open Go.RowKit Go.Extern.Stop Go.Stop Go.Extern

abbrev opPut : ByteArray := ⟨#[97, 114, 114, 97, 121, 46, 80, 117, 116]⟩
abbrev opNew : ByteArray := ⟨#[97, 114, 114, 97, 121, 46, 78, 101, 119]⟩
/-- The error of a code, wrapped; nil of 0. -/
def perr (sa : Nat → Addr) (c : Nat) (op : ByteArray) (at_ : Int) : Value := if c = 0 then .nilIface else flt op at_ (snt (sa c))

theorem Arr.free {w : World} {B k : Nat} {A : List St} (hA : Arr w B k A) {h b : Nat} {es : List En} (hh : A[h]? = some (b, es)) (o : Nat) : w.frozen? ⟨B + 2 + h, o, none⟩ = false := by
  obtain ⟨hl, he⟩ := List.getElem?_eq_some_iff.1 hh
  obtain ⟨cs, e1, _⟩ := hA.e h hl
  exact blk_free e1
theorem Arr.freeS {w : World} {B k : Nat} {A : List St} (hA : Arr w B k A) (o : Nat) : w.frozen? ⟨B, o, none⟩ = false := by
  obtain ⟨cs, e1, _⟩ := hA.s
  exact blk_free e1

theorem drop_any (w : World) (B k : Nat) (A : List St) (hA : Arr w B k A) (l : Int) :
    Calls Tryd.prog 14 #[.pointer (some ⟨B + 1, 0, none⟩), .int .i64 l] w fun r w' => r = .returned (.bool (dropA A l).1) ∧ Arr w' B k (dropA A l).2 ∧ Apart B (B + 2 + A.length) w w' := by
  have HA := Hid.in hA
  cases hv : vld l with
  | false =>
    have HV := Hid.in hv
    have HR : Hid (dropA A l = (false, A)) := Hid.in (by simp [dropA, hv])
    rw [HR.out]
    clear hv hA
    go_enter Tryd.func14, Tryd.ntmps14
    go_wp2_with fail
    refine (find_out _ B k A HA.out l HV.out).mono ?_
    rintro r w1 ⟨rfl, hb⟩
    have HB := Hid.in hb
    clear hb
    go_wp2
    go_ret
    exact ⟨rfl, HA.out.step HB.out, Apart.of_below HB.out⟩
  | true =>
    have HS := Hid.in (set_home hA.nn hv)
    have HG := Hid.in (stA_get hA.pos.1 l)
    obtain ⟨b, es, hst⟩ : ∃ b es, stA A l = (b, es) := ⟨_, _, rfl⟩
    have HR : Hid (dropA A l = if fnd l es < 0 then (false, A) else (true, A.set (hm A l) (b, es.set (fnd l es).toNat En.zero))) := Hid.in (by simp [dropA, hv, hst])
    rw [hst] at HG
    clear hv hA hst
    generalize hm A l = h at HS HG HR
    by_cases hz : fnd l es < 0
    · rw [HR.out, if_pos hz]
      clear HR
      obtain ⟨f, hf⟩ : ∃ f, fnd l es = f := ⟨_, rfl⟩
      rw [hf] at hz
      have HF := Hid.in hf
      clear hf
      go_enter Tryd.func14, Tryd.ntmps14
      go_wp2_with fail
      refine (find_in _ B k A HA.out l h b es HS.out HG.out).mono ?_
      rw [HF.out]
      rintro r w1 ⟨rfl, hb⟩
      have HB := Hid.in hb
      clear hb
      go_wp2
      go_ret
      exact ⟨rfl, HA.out.step HB.out, Apart.of_below HB.out⟩
    · rw [HR.out, if_neg hz]
      clear HR
      obtain ⟨i, hi, hfi, _, _⟩ := found hz
      rw [hfi, Int.toNat_natCast]
      have HF := Hid.in hfi
      clear hz hfi
      go_enter Tryd.func14, Tryd.ntmps14
      go_wp2_with fail
      refine (find_in _ B k A HA.out l h b es HS.out HG.out).mono ?_
      rw [HF.out]
      rintro r w1 ⟨rfl, hb⟩
      have hA2 := HA.out.step hb
      have HA2 := Hid.in hA2
      have HB := Hid.in hb
      obtain ⟨k0, _, k2, _, hk, hl⟩ := hA2.hdr HG.out
      obtain ⟨p1, p2, p3, p4⟩ := hA2.pos
      have hik : (i : Int) < (k : Int) := by omega
      have hlA : (h : Int) < (A.length : Int) := by omega
      obtain ⟨g0, g1, g2, g3, g4, g5, g6, g7, g8, g9⟩ := hA2.ent HG.out i hi
      have hf := hA2.free HG.out
      clear hb hA2 hk
      go_wp2
      go_ret
      obtain ⟨r1, r2⟩ := HA2.out.store HG.out i hi En.zero
      exact ⟨rfl, r1, (Apart.of_below HB.out).trans r2⟩

theorem free_box {w w1 : World} {e : En} {t : TypeId} (hb : Below (w.alloc (.cells e.ec.toArray t)).heap.size (w.alloc (.cells e.ec.toArray t)) w1) : ECells w1 w.heap.size 0 e := by
  have h : w1.heap[w.heap.size]? = some (.cells e.ec.toArray t) := (hb.block _ (by simp)).trans (heap_alloc_new _ _)
  exact ⟨blk_cell h rfl, blk_cell h rfl, blk_cell h rfl, blk_cell h rfl, blk_cell h rfl, blk_cell h rfl, blk_cell h rfl, blk_cell h rfl, blk_cell h rfl, blk_cell h rfl⟩

theorem put_any (w : World) (sa : Nat → Addr) (hE : Env10 w sa) (B k : Nat) (A : List St) (hA : Arr w B k A) (e : En) :
    Calls Tryd.prog 10 #[.pointer (some ⟨B + 1, 0, none⟩), e.val] w fun r w' => r = .returned (perr sa (putA A e).1 opPut e.line) ∧ Arr w' B k (putA A e).2 ∧ Apart B (B + 2 + A.length) w w' := by
  have HA := Hid.in hA
  have HE := Hid.in hE
  have HZ : Hid (Below w.heap.size w (w.alloc (.cells e.ec.toArray 32))) := Hid.in (below_alloc _ _)
  clear hE
  cases hr : e.right with
  | false =>
    have HR : Hid (putA A e = (1, A)) := Hid.in (by simp [putA, hr])
    have HRR := Hid.in hr
    rw [HR.out]
    clear hr hA
    obtain ⟨e0, e1, e2, e3, e4, e5, e6, e7, e8, e9⟩ := e
    go_enter Tryd.func10, Tryd.ntmps10
    go_wp2_with fail
    refine (right_any (En.mk e0 e1 e2 e3 e4 e5 e6 e7 e8 e9) _).mono ?_
    rw [HRR.out]
    rintro r w1 ⟨rfl, hb⟩
    obtain ⟨c0, c1, c2, c3, c4, c5, c6, c7, c8, c9⟩ := free_box (e := En.mk e0 e1 e2 e3 e4 e5 e6 e7 e8 e9) hb
    have HB := Hid.in (bstep HZ.out (Nat.le_refl _) hb)
    have hg : w1.cell? ⟨0, 0, none⟩ = some (snt (sa 1)) := (HE.out.below HB.out).g 1 (by omega) (by omega)
    clear hb
    simp only [Nat.zero_add] at c0 c1 c2 c3 c4 c5 c6 c7 c8 c9
    go_wp2_with fail
    refine (wrap_some _ _ _ _ _).mono ?_
    rintro r w' ⟨rfl, rfl⟩
    go_wp2
    go_ret
    exact ⟨rfl, HA.out.step HB.out, Apart.of_below HB.out⟩
  | true =>
    have hv : vld e.line = true := by
      simp only [En.right, decide_eq_true_eq] at hr
      simp only [vld, decide_eq_true_eq]
      exact hr.1
    have HS := Hid.in (set_home hA.nn hv)
    have HG := Hid.in (stA_get hA.pos.1 e.line)
    obtain ⟨b, es, hst⟩ : ∃ b es, stA A e.line = (b, es) := ⟨_, _, rfl⟩
    have HR : Hid (putA A e = if plc e.line es < 0 then (6, A) else (0, A.set (hm A e.line) (b, es.set (plc e.line es).toNat e))) := Hid.in (by simp [putA, hr, hst])
    have HRR := Hid.in hr
    rw [hst] at HG
    clear hv hA hst hr
    generalize hm A e.line = h at HS HG HR
    have hpl := plc_lt e.line es
    obtain ⟨e0, e1, e2, e3, e4, e5, e6, e7, e8, e9⟩ := e
    by_cases hz : plc e0 es < 0
    · rw [HR.out, if_pos hz]
      clear HR
      obtain ⟨f, hf⟩ : ∃ f, plc e0 es = f := ⟨_, rfl⟩
      rw [hf] at hz
      have HF := Hid.in hf
      clear hf hpl
      go_enter Tryd.func10, Tryd.ntmps10
      go_wp2_with fail
      refine (right_any (En.mk e0 e1 e2 e3 e4 e5 e6 e7 e8 e9) _).mono ?_
      rw [HRR.out]
      rintro r w1 ⟨rfl, hb⟩
      have HB := Hid.in (bstep HZ.out (Nat.le_refl _) hb)
      have HBB := Hid.in hb
      obtain ⟨c0, c1, c2, c3, c4, c5, c6, c7, c8, c9⟩ := free_box (e := En.mk e0 e1 e2 e3 e4 e5 e6 e7 e8 e9) hb
      simp only [Nat.zero_add] at c0 c1 c2 c3 c4 c5 c6 c7 c8 c9
      clear hb
      go_wp2_with fail
      refine (place_in w1 B k A (HA.out.step HB.out) e0 h b es HS.out HG.out).mono ?_
      rw [HF.out]
      rintro r w2 ⟨rfl, hb2⟩
      have HB2 := Hid.in (bstep HB.out (Nat.le_refl _) hb2)
      have hg : w2.cell? ⟨1, 0, none⟩ = some (snt (sa 6)) := (HE.out.below HB2.out).g 6 (by omega) (by omega)
      clear c0 c1 c2 c3 c4 c5 c6 c7 c8 c9
      obtain ⟨c0, c1, c2, c3, c4, c5, c6, c7, c8, c9⟩ := free_box (e := En.mk e0 e1 e2 e3 e4 e5 e6 e7 e8 e9) (bstep HBB.out (Nat.le_refl _) hb2)
      simp only [Nat.zero_add] at c0 c1 c2 c3 c4 c5 c6 c7 c8 c9
      clear hb2
      go_wp2_with fail
      refine (wrap_some _ _ _ _ _).mono ?_
      rintro r w' ⟨rfl, rfl⟩
      go_wp2
      go_ret
      exact ⟨rfl, HA.out.step HB2.out, Apart.of_below HB2.out⟩
    · rw [HR.out, if_neg hz]
      clear HR
      obtain ⟨i, hfi⟩ : ∃ i : Nat, plc e0 es = (i : Int) := ⟨(plc e0 es).toNat, by omega⟩
      simp only [] at hpl
      rw [hfi] at hpl ⊢
      rw [Int.toNat_natCast]
      have hi : i < es.length := by omega
      have HF := Hid.in hfi
      clear hz hfi hpl
      go_enter Tryd.func10, Tryd.ntmps10
      go_wp2_with fail
      refine (right_any (En.mk e0 e1 e2 e3 e4 e5 e6 e7 e8 e9) _).mono ?_
      rw [HRR.out]
      rintro r w1 ⟨rfl, hb⟩
      have HB := Hid.in (bstep HZ.out (Nat.le_refl _) hb)
      have HBB := Hid.in hb
      obtain ⟨c0, c1, c2, c3, c4, c5, c6, c7, c8, c9⟩ := free_box (e := En.mk e0 e1 e2 e3 e4 e5 e6 e7 e8 e9) hb
      simp only [Nat.zero_add] at c0 c1 c2 c3 c4 c5 c6 c7 c8 c9
      clear hb
      go_wp2_with fail
      refine (place_in w1 B k A (HA.out.step HB.out) e0 h b es HS.out HG.out).mono ?_
      rw [HF.out]
      rintro r w2 ⟨rfl, hb2⟩
      have HB2 := Hid.in (bstep HB.out (Nat.le_refl _) hb2)
      clear c0 c1 c2 c3 c4 c5 c6 c7 c8 c9
      obtain ⟨c0, c1, c2, c3, c4, c5, c6, c7, c8, c9⟩ := free_box (e := En.mk e0 e1 e2 e3 e4 e5 e6 e7 e8 e9) (bstep HBB.out (Nat.le_refl _) hb2)
      simp only [Nat.zero_add] at c0 c1 c2 c3 c4 c5 c6 c7 c8 c9
      have hA2 := HA.out.step HB2.out
      have HA2 := Hid.in hA2
      obtain ⟨k0, _, k2, _, hk, hl⟩ := hA2.hdr HG.out
      obtain ⟨p1, p2, p3, p4⟩ := hA2.pos
      have hik : (i : Int) < (k : Int) := by omega
      have hlA : (h : Int) < (A.length : Int) := by omega
      obtain ⟨g0, g1, g2, g3, g4, g5, g6, g7, g8, g9⟩ := hA2.ent HG.out i hi
      have hf := hA2.free HG.out
      clear hb2 hA2 hk
      go_wp2
      go_region
      go_wp2
      go_ret
      obtain ⟨r1, r2⟩ := HA2.out.store HG.out i hi (En.mk e0 e1 e2 e3 e4 e5 e6 e7 e8 e9)
      exact ⟨rfl, r1.drew, ((Apart.of_below HB2.out).trans r2).drew⟩

end Go.Proofs.YtcackmmfnojpfaaDoor

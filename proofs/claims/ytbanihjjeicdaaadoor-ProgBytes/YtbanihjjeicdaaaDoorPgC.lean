/- DERIVED of the program: rows of operations in memory; prog.Put by its contract. Own work. -/
import Derived.Test.YtbanihjjeicdaaaDoorPgB
namespace Go.Proofs.YtbanihjjeicdaaaDoor
open Go.RowKit Go.Extern.Stop Go.Stop Go.Extern

/-- prog.Put -/
def opGPut : ByteArray := ⟨#[112, 114, 111, 103, 46, 80, 117, 116]⟩
/-- prog.Parse -/
def opGParse : ByteArray := ⟨#[112, 114, 111, 103, 46, 80, 97, 114, 115, 101]⟩

/-- A row of operations that is read. -/
abbrev RowO (w : World) (ao : Option Addr) (cap : Nat) (L : List O4) : Prop := Rows' 4 w ao cap (L.map oc)

theorem Rows'.oat {w : World} {ao : Option Addr} {cap : Nat} {L : List O4} (h : RowO w ao cap L) (j : Nat) (hj : j < L.length) : ∃ b o k a v d, ao = some ⟨b, o, none⟩ ∧ w.cell? ⟨b, o + j * 4, none⟩ = some (.int .i64 k) ∧ w.cell? ⟨b, o + j * 4 + 1, none⟩ = some (.int .i64 a) ∧ w.cell? ⟨b, o + j * 4 + 2, none⟩ = some (.int .u32 v) ∧ w.cell? ⟨b, o + j * 4 + 3, none⟩ = some (.int .u32 d) ∧ L[j]? = some (k, a, v, d) := by
  obtain ⟨b, o, e, h0⟩ := h.cell j (by simpa using hj) 0 (.int .i64 L[j].1) (by simp [oc])
  obtain ⟨b', o', e', h1⟩ := h.cell j (by simpa using hj) 1 (.int .i64 L[j].2.1) (by simp [oc])
  rw [e] at e'
  cases e'
  obtain ⟨b', o', e', h2⟩ := h.cell j (by simpa using hj) 2 (.int .u32 L[j].2.2.1) (by simp [oc])
  rw [e] at e'
  cases e'
  obtain ⟨b', o', e', h3⟩ := h.cell j (by simpa using hj) 3 (.int .u32 L[j].2.2.2) (by simp [oc])
  rw [e] at e'
  cases e'
  exact ⟨b, o, _, _, _, _, e, h0, h1, h2, h3, List.getElem?_eq_getElem hj⟩

theorem put_long (ao : Option Addr) (N cap : Nat) (n : Int) (w : World) (sa : Nat → Addr) (hE : Env10 w sa) (hN : 64 < N) :
    Calls Tryd.prog 9 #[.slice ao N cap, .int .i64 n] w fun r w' => r = .returned (.tuple #[.slice none 0 0, flt opGPut (N : Int) (snt (sa 2))]) ∧ w' = w := by
  have g2 := hE.g 2 (by omega) (by omega)
  simp only [gix] at g2
  clear hE
  go_enter Tryd.func9, Tryd.ntmps9
  go_wp2_with fail
  refine (wrap_some _ _ _ _ _).mono ?_
  rintro r w ⟨rfl, rfl⟩
  go_wp2
  go_ret2
  exact ⟨rfl, rfl⟩

set_option maxHeartbeats 1600000 in
set_option maxRecDepth 20000 in
theorem put_any (ao : Option Addr) (N cap : Nat) (L : List O4) (n : Int) (w : World) (sa : Nat → Addr) (hE : Env10 w sa) (hN : N = L.length) (hN64 : N ≤ 64) (hL : RowO w ao cap L) (hx : ∀ x ∈ L, O32 x) :
    Calls Tryd.prog 9 #[.slice ao N cap, .int .i64 n] w fun r w' => ∃ v e, r = .returned (.tuple #[v, e]) ∧ Below w.heap.size w w' ∧
      (((∀ x ∈ L, rt x n = true) ∧ e = .nilIface ∧ ∃ a' c', v = .slice a' (encP L).length c' ∧ Lie w' a' c' (encP L)) ∨
       (∃ (i : Nat) (x : O4), L[i]? = some x ∧ rt x n = false ∧ (∀ y ∈ L.take i, rt y n = true) ∧ v = .slice none 0 0 ∧ e = flt opGPut (i : Int) (snt (sa 1)))) := by
  have HE := Hid.in hE
  have HL := Hid.in hL
  have HX := Hid.in hx
  have HN := Hid.in hN
  clear hE hL hx hN
  go_enter Tryd.func9, Tryd.ntmps9
  go_wp2_with fail
  refine (num_l none 0 0 [] (N : Int) w rfl (Lie.nil _) (by decide) (by omega) (by omega)).mono ?_
  rintro r w1 ⟨a1, M1, c1, rfl, hM1, hL1, hb1⟩
  rw [List.nil_append] at hM1 hL1
  have HM1 := Hid.in hM1
  have HL1 := Hid.in hL1
  have HB1 := Hid.in hb1
  clear hM1 hL1 hb1
  go_wp2
  go_loopw [6, 21] (fun b i wr => ∃ (j : Nat) (ab : Option Addr) (M c : Nat), j ≤ N ∧ i = .int .i64 (j : Int) ∧ b = .slice ab M c ∧ M = (enc (zz (N : Int)) ++ encL (L.take j)).length ∧ Lie wr ab c (enc (zz (N : Int)) ++ encL (L.take j)) ∧ (∀ x ∈ L.take j, rt x n = true) ∧ Below w.heap.size w wr) (fun _ i _ => N - (intOf i).toNat)
  case atStart => exact ⟨0, a1, M1, c1, Nat.zero_le _, rfl, rfl, by rw [List.take_zero, encL_nil, List.append_nil]; exact HM1.out, by rw [List.take_zero, encL_nil, List.append_nil]; exact HL1.out, by simp, HB1.out⟩
  case round =>
    obtain ⟨j, ab, M, c, hj, rfl, rfl, hM, hLb, hR, hb⟩ := hrel
    have HM := Hid.in hM
    have HLb := Hid.in hLb
    have HR := Hid.in hR
    have HB := Hid.in hb
    clear hM hLb hR hb
    by_cases hlt : j < N
    · obtain ⟨b, o, k, a, v, d, rfl, x0, x1, x2, x3, hj2⟩ := (HL.out.step HB.out).oat j (by have := HN.out; omega)
      have HJ := Hid.in hj2
      clear hj2
      go_wp2_with fail
      refine (right_any k a v d n _).mono ?_
      by_cases hrt : rt (k, a, v, d) n = true
      · rw [hrt]
        rintro r w2 ⟨rfl, hb2⟩
        have HRT := Hid.in hrt
        clear hrt
        have HO2 : Hid (w2.heap[wr.heap.size]? = some (.cells #[.int .i64 k, .int .i64 a, .int .u32 v, .int .u32 d] 29 (0, 0))) := Hid.in (blk_step (heap_alloc_new _ _) hb2)
        have HB2 := Hid.in (bstep (below_alloc wr _) (Nat.le_refl _) hb2)
        clear hb2 x0 x1 x2 x3
        have y0 : w2.cell? ⟨wr.heap.size, 0, none⟩ = some (.int .i64 k) := blk_cell HO2.out rfl
        have y1 : w2.cell? ⟨wr.heap.size, 1, none⟩ = some (.int .i64 a) := blk_cell HO2.out rfl
        have y2 : w2.cell? ⟨wr.heap.size, 2, none⟩ = some (.int .u32 v) := blk_cell HO2.out rfl
        have y3 : w2.cell? ⟨wr.heap.size, 3, none⟩ = some (.int .u32 d) := blk_cell HO2.out rfl
        have HLEN : Hid ((enc (zz (N : Int)) ++ encL (L.take j)).length ≤ 3000) := Hid.in (by
          have h1 := num_len (N : Int) (by omega) (by omega)
          have h2 := encL_len (n := n) (L.take j) (fun x hx => ⟨HR.out x hx, HX.out x (List.mem_of_mem_take hx)⟩)
          rw [List.length_take] at h2
          rw [List.length_append]; omega)
        go_wp2_with fail
        refine (gput_any ab M c _ k a v d n w2 HM.out (HLb.out.step HB2.out) (by have := HLEN.out; omega) HRT.out (HX.out _ (List.mem_of_getElem? HJ.out))).mono ?_
        rintro r w3 ⟨a3, M3, c3, rfl, hM3, hL3, hb3⟩
        have e3 : (enc (zz (N : Int)) ++ encL (L.take j)) ++ encO (k, a, v, d) = enc (zz (N : Int)) ++ encL (L.take (j + 1)) := by
          have hjl : j < L.length := by have := HN.out; omega
          have hg : L[j] = (k, a, v, d) := by have h := HJ.out; rw [List.getElem?_eq_getElem hjl] at h; exact Option.some.inj h
          rw [encL_snoc L j hjl, hg, List.append_assoc]
        rw [e3] at hM3 hL3
        have HM3 := Hid.in hM3
        have HL3 := Hid.in hL3
        have HB3 := Hid.in (bstep HB2.out (Nat.le_refl _) hb3)
        clear hM3 hL3 hb3 e3 y0 y1 y2 y3
        go_wp2
        go_roundw
        case rel =>
          refine ⟨j + 1, a3, M3, c3, by omega, by go_num, rfl, HM3.out, HL3.out, fun x hx => ?_, bstep HB.out (by have := HB.out.size; omega) HB3.out⟩
          have hjl : j < L.length := by have := HN.out; omega
          have hg : L[j] = (k, a, v, d) := by have h := HJ.out; rw [List.getElem?_eq_getElem hjl] at h; exact Option.some.inj h
          rw [List.take_succ_eq_append_getElem hjl] at hx
          rcases List.mem_append.1 hx with hx | hx
          · exact HR.out x hx
          · rw [List.mem_singleton.1 hx, hg]; exact HRT.out
        case measure => simp [intOf]; omega
      · have hrf : rt (k, a, v, d) n = false := by simpa using hrt
        rw [hrf]
        rintro r w2 ⟨rfl, hb2⟩
        have HRT := Hid.in hrf
        clear hrt hrf
        have HB2 := Hid.in (bstep HB.out (by have := HB.out.size; omega) (bstep (below_alloc wr _) (Nat.le_refl _) hb2))
        clear hb2 x0 x1 x2 x3
        have g1 := (HE.out.below HB2.out).g 1 (by omega) (by omega)
        simp only [gix] at g1
        go_wp2_with fail
        refine (wrap_some _ _ _ _ _).mono ?_
        rintro r w2 ⟨rfl, rfl⟩
        go_wp2
        go_ret2
        exact ⟨_, _, rfl, HB2.out, .inr ⟨j, _, HJ.out, HRT.out, HR.out, rfl, rfl⟩⟩
    · have hjN : j = N := by omega
      go_wp2
      go_ret2
      refine ⟨_, _, rfl, HB.out, .inl ⟨?_, rfl, ab, c, ?_, ?_⟩⟩
      · have h := HR.out
        rw [List.take_of_length_le (by have := HN.out; omega)] at h
        exact h
      · have h := HM.out
        rw [List.take_of_length_le (by have := HN.out; omega), HN.out] at h
        rw [h]; rfl
      · have h := HLb.out
        rw [List.take_of_length_le (by have := HN.out; omega), HN.out] at h
        exact h

theorem put_ok (ao : Option Addr) (N cap : Nat) (L : List O4) (n : Int) (w : World) (sa : Nat → Addr) (hE : Env10 w sa) (hN : N = L.length) (hN64 : N ≤ 64) (hL : RowO w ao cap L) (hx : ∀ x ∈ L, rt x n = true ∧ O32 x) :
    Calls Tryd.prog 9 #[.slice ao N cap, .int .i64 n] w fun r w' => ∃ a' M c', r = .returned (.tuple #[.slice a' M c', .nilIface]) ∧ M = (encP L).length ∧ Lie w' a' c' (encP L) ∧ Below w.heap.size w w' := by
  refine (put_any ao N cap L n w sa hE hN hN64 hL (fun x h => (hx x h).2)).mono ?_
  rintro r w' ⟨v, e, rfl, hb, ⟨_, rfl, a', c', rfl, hl⟩ | ⟨i, x, h1, h2, _⟩⟩
  · exact ⟨a', _, c', rfl, rfl, hl, hb⟩
  · rw [(hx x (List.mem_of_getElem? h1)).1] at h2
    cases h2

end Go.Proofs.YtbanihjjeicdaaaDoor

/- DERIVED of the program: ProgWrites returns true. Own work. -/
import Derived.Test.YtbanihjjeicdaaaDoorPgF
import Derived.Test.YtbanihjjeicdaaaDoorPgG
import Derived.Test.YtbanihjjeicdaaaDoorGenR
namespace Go.Proofs.YtbanihjjeicdaaaDoor
open Go.RowKit Go.Extern.Stop Go.Stop Go.Extern

/-- What Put answers. -/
def PutSays (L : List O4) (n : Int) (sa : Nat → Addr) (N : Nat) (v e : Value) (w' : World) : Prop :=
  (64 < N ∧ v = .slice none 0 0 ∧ e = flt opGPut (N : Int) (snt (sa 2))) ∨
  (N ≤ 64 ∧ (∀ x ∈ L, rt x n = true) ∧ e = .nilIface ∧ ∃ a' c', v = .slice a' (encP L).length c' ∧ Lie w' a' c' (encP L)) ∨
  (N ≤ 64 ∧ frt L n < N ∧ v = .slice none 0 0 ∧ e = flt opGPut (frt L n : Int) (snt (sa 1)))
theorem put_says (ao : Option Addr) (N cap : Nat) (L : List O4) (n : Int) (w : World) (sa : Nat → Addr) (hE : Env10 w sa) (hN : N = L.length) (hL : RowO w ao cap L) (hx : ∀ x ∈ L, O32 x) :
    Calls Tryd.prog 9 #[.slice ao N cap, .int .i64 n] w fun r w' => ∃ v e, r = .returned (.tuple #[v, e]) ∧ Below w.heap.size w w' ∧ PutSays L n sa N v e w' := by
  by_cases h : 64 < N
  · refine (put_long ao N cap n w sa hE h).mono ?_
    rintro r w' ⟨rfl, rfl⟩
    exact ⟨_, _, rfl, Below.refl _ _, .inl ⟨h, rfl, rfl⟩⟩
  · refine (put_any ao N cap L n w sa hE hN (by omega) hL hx).mono ?_
    rintro r w' ⟨v, e, rfl, hb, ⟨h1, rfl, a', c', rfl, h2⟩ | ⟨i, x, h1, h2, h3, rfl, rfl⟩⟩
    · exact ⟨_, _, rfl, hb, .inr (.inl ⟨by omega, h1, rfl, a', c', rfl, h2⟩)⟩
    · have hf := frt_at h3 h1 h2
      refine ⟨_, _, rfl, hb, .inr (.inr ⟨by omega, ?_, rfl, by rw [hf]⟩)⟩
      rw [hf, hN]
      exact (List.getElem?_eq_some_iff.1 h1).1
theorem PutSays.step {L : List O4} {n : Int} {sa : Nat → Addr} {N : Nat} {v e : Value} {w w' : World} (h : PutSays L n sa N v e w) (hb : Below w.heap.size w w') : PutSays L n sa N v e w' := by
  rcases h with h | ⟨h1, h2, h3, a', c', h4, h5⟩ | h
  · exact .inl h
  · exact .inr (.inl ⟨h1, h2, h3, a', c', h4, h5.step hb⟩)
  · exact .inr (.inr h)

set_option maxHeartbeats 3200000 in
set_option maxRecDepth 20000 in
theorem progWrites_any (w : World) (sa : Nat → Addr) (hE : Env10 w sa) (al : Option Addr) (N0 cal : Nat) (L0 : List O4) (hN : N0 = L0.length) (hI : RowO w al cal L0) (hx : ∀ x ∈ L0, O32 x) (n : Int) :
    Calls Tryd.prog 4 #[.slice al N0 cal, .int .i64 n] w fun r w' => r = .returned (.bool true) ∧ Below w.heap.size w w' := by
  have HE := Hid.in hE
  have HN0 := Hid.in hN
  have HI0 := Hid.in hI
  have HX0 := Hid.in hx
  clear hE hN hI hx
  go_enter Tryd.func4, Tryd.ntmps4
  go_upto_if 13 with fail
  go_cut [0] (fun s wx => ∃ (N : Nat) (L : List O4), s = .slice al N cal ∧ N = L.length ∧ N ≤ 80 ∧ RowO w al cal L ∧ (∀ x ∈ L, O32 x) ∧ wx = w)
  case first =>
    by_cases h80 : 80 < N0
    · have hsl : ∀ w', (Instr.sliceAt 30 (.slice al N0 cal) none (some (.int .i64 80)) none).run Tryd.prog w' = .ok (.slice al 80 cal) w' := fun w' => slice_toO al N0 cal 80 (by have h1 := HI0.out.le; rw [List.length_map] at h1; have h2 := HN0.out; omega) w'
      have i1 : (80 : Int) < (N0 : Int) := by omega
      go_wp2_with fail
      go_meet
      case rel =>
        refine ⟨80, L0.take 80, rfl, by rw [List.length_take]; have := HN0.out; omega, by decide, ?_, fun x hx => HX0.out x (List.mem_of_mem_take hx), rfl⟩
        have h := HI0.out.take 80
        rwa [← List.map_take] at h
    · have i1 : ¬ (80 : Int) < (N0 : Int) := by omega
      go_wp2_with fail
      go_meet
      case rel => exact ⟨N0, L0, rfl, HN0.out, by omega, HI0.out, HX0.out, rfl⟩
  case rest =>
  obtain ⟨N, L, rfl, hN, hN80, hI, hx, hw⟩ := hcut
  subst hw
  have HN := Hid.in hN
  have HI := Hid.in hI
  have HX := Hid.in hx
  clear hN hI hx HN0 HI0 HX0
  go_wp2_with fail
  refine (roomyO_any al N cal L (-7) 0 0 0 _ HN.out hN80 (HI.out.step (below_alloc _ _))).mono ?_
  rintro r w1 ⟨g, rfl, hO, hb1⟩
  obtain ⟨A, hA⟩ : ∃ A, wc.heap.size = A := ⟨_, rfl⟩
  have HA := Hid.in hA
  have HMK1 : Hid (w1.heap[A]? = some (.cells #[.int .i64 (-7), .int .i64 0, .int .u32 0, .int .u32 0] 29 (0, 0))) := Hid.in (by rw [← hA]; exact blk_step (heap_alloc_new _ _) hb1)
  have HB1 : Hid (Below wc.heap.size wc w1) := Hid.in (bstep (below_alloc _ _) (Nat.le_refl _) hb1)
  have HO1 : Hid (OwnO w1 0 (some ⟨g, 0, none⟩) (N + 80) (N + 80) (L ++ List.replicate 80 (-7, 0, 0, 0))) := Hid.in (hO.low (Nat.zero_le _))
  rw [hA]
  clear hO hb1 hA
  have hsl := slice_toO (some ⟨g, 0, none⟩) (N + 80) (N + 80) N (by omega)
  have HT1 : Hid (RowO w1 (some ⟨g, 0, none⟩) (N + 80) L) := Hid.in (by
    have h := HO1.out.take N (by omega)
    rw [← List.map_take, List.take_append_of_le_length (by have := HN.out; omega), List.take_of_length_le (by have := HN.out; omega)] at h
    exact h.rowO)
  go_wp2_with fail
  refine (put_says (some ⟨g, 0, none⟩) N (N + 80) L n w1 sa (HE.out.below HB1.out) HN.out HT1.out HX.out).mono ?_
  rintro r w2 ⟨v7, e8, rfl, hb2, hP⟩
  have HP2 := Hid.in hP
  have HMK2 := Hid.in (blk_step HMK1.out hb2)
  have HO2 := Hid.in (HO1.out.step hb2)
  have HB2 := Hid.in (bstep HB1.out (Nat.le_refl _) hb2)
  clear hb2 hP HMK1 HO1 HB1 HT1 hsl
  go_wp2
  go_loopw [9] (fun i wr => ∃ (j : Nat), j ≤ N ∧ i = .int .i64 (j : Int) ∧ Below w2.heap.size w2 wr) (fun i _ => N - (intOf i).toNat)
  case atStart => exact ⟨0, Nat.zero_le _, rfl, Below.refl _ _⟩
  case round =>
    obtain ⟨j, hj, rfl, hb⟩ := hrel
    have HB := Hid.in hb
    clear hb
    by_cases hlt : j < N
    · obtain ⟨b, o, k, a, v, d, rfl, x0, x1, x2, x3, _⟩ := (HI.out.step (bstep HB2.out (Nat.le_refl _) HB.out)).oat j (by have := HN.out; omega)
      have HC := Hid.in (And.intro x0 (And.intro x1 (And.intro x2 x3)))
      clear x0 x1 x2 x3
      have i1 : (j : Int) < (N : Int) := by omega
      have x0 : ∀ n : Kin (fun W => Below wr.heap.size wr W), n.of.cell? ⟨b, o + j * 4, none⟩ = some (.int .i64 k) := fun n => (n.in.cell (p := ⟨b, o + j * 4, none⟩) (lt_cell HC.out.1)).trans HC.out.1
      have x1 : ∀ n : Kin (fun W => Below wr.heap.size wr W), n.of.cell? ⟨b, o + j * 4 + 1, none⟩ = some (.int .i64 a) := fun n => (n.in.cell (p := ⟨b, o + j * 4 + 1, none⟩) (lt_cell HC.out.2.1)).trans HC.out.2.1
      have x2 : ∀ n : Kin (fun W => Below wr.heap.size wr W), n.of.cell? ⟨b, o + j * 4 + 2, none⟩ = some (.int .u32 v) := fun n => (n.in.cell (p := ⟨b, o + j * 4 + 2, none⟩) (lt_cell HC.out.2.2.1)).trans HC.out.2.2.1
      have x3 : ∀ n : Kin (fun W => Below wr.heap.size wr W), n.of.cell? ⟨b, o + j * 4 + 3, none⟩ = some (.int .u32 d) := fun n => (n.in.cell (p := ⟨b, o + j * 4 + 3, none⟩) (lt_cell HC.out.2.2.2)).trans HC.out.2.2.2
      obtain ⟨T, hT⟩ : ∃ T, rt (k, a, v, d) n = T := ⟨_, rfl⟩
      have R1 : Hid (∀ W, Calls Tryd.prog 16 #[.agg #[.int .i64 k, .int .i64 a, .int .u32 v, .int .u32 d], .int .i64 n] W fun r w' => r = .returned (.bool T) ∧ Below W.heap.size W w') := Hid.in (fun W => by rw [← hT]; exact right_any k a v d n W)
      have R2 : Hid (∀ W, Calls Tryd.prog 17 #[.agg #[.int .i64 k, .int .i64 a, .int .u32 v, .int .u32 d], .int .i64 n] W fun r w' => r = .returned (.bool T) ∧ Below W.heap.size W w') := Hid.in (fun W => by rw [← hT]; exact rright_any k a v d n W)
      clear hT
      go_upto_region 9 with fail
      cases T
      all_goals
        refine wp_region_kin (C := fun W => Below wr.heap.size wr W) (by kernel_rfl) (by kernel_rfl) (Below.refl _ _).drew (fun hne => ?_)
        repeat (go_big_quiet_step (first | (go_at_call 16; exact Kin.below (Nat.le_refl _) _ (R1.out _)) | (go_at_call 17; exact Kin.below (Nat.le_refl _) _ (R2.out _))))
        refine wpQuiet_nil ?_
        rintro w6 ⟨n6, rfl⟩
        have HT := Hid.in (bstep HB.out (Nat.le_refl _) n6.in)
        clear x0 x1 x2 x3
        go_wp2
        go_roundw
        case rel => exact ⟨j + 1, by omega, by go_num, HT.out⟩
        case measure => simp [intOf]; omega
    · have HMK := Hid.in (blk_step HMK2.out HB.out)
      have y0 : wr.cell? ⟨A, 0, none⟩ = some (.int .i64 (-7)) := blk_cell HMK.out rfl
      have y1 : wr.cell? ⟨A, 1, none⟩ = some (.int .i64 0) := blk_cell HMK.out rfl
      have y2 : wr.cell? ⟨A, 2, none⟩ = some (.int .u32 0) := blk_cell HMK.out rfl
      have y3 : wr.cell? ⟨A, 3, none⟩ = some (.int .u32 0) := blk_cell HMK.out rfl
      have HBR := Hid.in (bstep HB2.out (Nat.le_refl _) HB.out)
      go_wp2_with fail
      refine (intactO_any al g N cal L (-7) 0 0 0 0 wr (HO2.out.step HB.out) HN.out hN80 (HI.out.step HBR.out)).mono ?_
      rintro r w3 ⟨rfl, hb3⟩
      have HP3 := Hid.in ((HP2.out.step HB.out).step hb3)
      have HB3 := Hid.in (bstep HBR.out (Nat.le_refl _) hb3)
      clear hb3 y0 y1 y2 y3 HMK HMK2 HO2 HP2 HB HB2 HBR hlt hj
      go_wp2_with fail
      refine (lright_any al N cal L n w3 HN.out hN80 (HI.out.step HB3.out)).mono ?_
      rintro r w4 ⟨rfl, hb4⟩
      have hP := HP3.out.step hb4
      have HB4 := Hid.in (bstep HB3.out (Nat.le_refl _) hb4)
      clear hb4 HP3 HB3
      rcases hP with ⟨h64, rfl, rfl⟩ | ⟨h64, hall, rfl, a', c', rfl, hLie⟩ | ⟨h64, hfr, rfl, rfl⟩
      · have i2 : (64 : Int) < (N : Int) := by omega
        go_wp2_with fail
        refine (kIs_flt opGPut (N : Int) [] 2 (by omega) (by omega) w4 sa (HE.out.below HB4.out)).mono ?_
        rintro r w5 ⟨rfl, hb5⟩
        have HB5 := Hid.in (bstep HB4.out (Nat.le_refl _) hb5)
        clear hb5
        go_wp2_with fail
        refine (progRuns_any w5 sa (HE.out.below HB5.out)).mono ?_
        rintro r w6 ⟨rfl, hb6⟩
        have HB6 := Hid.in (bstep HB5.out (Nat.le_refl _) hb6)
        clear hb6
        go_wp2
        go_ret
        exact ⟨rfl, HB6.out⟩
      · have i2 : ¬ (64 : Int) < (N : Int) := by omega
        have hfr : frt L n = N := by rw [frt_all hall]; exact HN.out.symm
        rw [hfr]
        have HALL := Hid.in hall
        have HLIE := Hid.in hLie
        clear hfr hall hLie
        go_wp2_with fail
        refine (putOps_ok al N cal L n w4 HN.out h64 (HI.out.step HB4.out) (fun x hx => ⟨HALL.out x hx, HX.out x hx⟩)).mono ?_
        rintro r w5 ⟨a5, M5, c5, rfl, hM5, hL5, hb5⟩
        have HM5 := Hid.in hM5
        have HL5 := Hid.in hL5
        have HB5 := Hid.in (bstep HB4.out (Nat.le_refl _) hb5)
        have HLIE5 := Hid.in (HLIE.out.step hb5)
        clear hM5 hL5 hb5
        go_wp2_with fail
        refine (same_any a' a5 _ M5 c' c5 (encP L) (encP L) w5 rfl HM5.out HLIE5.out HL5.out (by have := encP_len L (fun x hx => ⟨HALL.out x hx, HX.out x hx⟩) (by have := HN.out; omega); omega)).mono ?_
        rw [show decide (encP L = encP L) = true from by simp]
        rintro r w6 ⟨rfl, hb6⟩
        have HB6 := Hid.in (bstep HB5.out (Nat.le_refl _) hb6)
        clear hb6
        go_wp2_with fail
        refine (progRuns_any w6 sa (HE.out.below HB6.out)).mono ?_
        rintro r w7 ⟨rfl, hb7⟩
        have HB7 := Hid.in (bstep HB6.out (Nat.le_refl _) hb7)
        clear hb7
        go_wp2
        go_ret
        exact ⟨rfl, HB7.out⟩
      · have i2 : ¬ (64 : Int) < (N : Int) := by omega
        obtain ⟨f, hf⟩ : ∃ f, frt L n = f := ⟨_, rfl⟩
        rw [hf] at hfr ⊢
        clear hf
        have i3 : (f : Int) < (N : Int) := by omega
        go_wp2_with fail
        refine (kIs_flt opGPut (f : Int) [] 1 (by omega) (by omega) w4 sa (HE.out.below HB4.out)).mono ?_
        rintro r w5 ⟨rfl, hb5⟩
        have HB5 := Hid.in (bstep HB4.out (Nat.le_refl _) hb5)
        clear hb5
        go_wp2_with fail
        refine (progRuns_any w5 sa (HE.out.below HB5.out)).mono ?_
        rintro r w6 ⟨rfl, hb6⟩
        have HB6 := Hid.in (bstep HB5.out (Nat.le_refl _) hb6)
        clear hb6
        go_wp2
        go_ret
        exact ⟨rfl, HB6.out⟩

end Go.Proofs.YtbanihjjeicdaaaDoor

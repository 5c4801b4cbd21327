/- DERIVED of the program: ProgBytes returns true. Own work. (written by src/PgBytes.mk.py) -/
import Derived.Test.YtbanihjjeicdaaaDoorPgEmpty
import Derived.Deep.RegionHeld3
import Derived.Deep.CutBlock
namespace Go.Proofs.YtbanihjjeicdaaaDoor
open Go.RowKit Go.Extern.Stop Go.Stop Go.Extern

/-- 's[1:]' of bytes. -/
theorem slice_from1B (b o n cap : Nat) (hn : 1 ≤ n) (w : World) :
    (Instr.sliceAt 22 (.slice (some ⟨b, o, none⟩) n cap) (some (.int .i64 1)) none none).run Tryd.prog w = .ok (.slice (some (if cap = 1 then ⟨b, o, none⟩ else ⟨b, o + 1, none⟩)) (n - 1) (cap - 1)) w := by
  obtain ⟨i0, hi, hz0, hz1, hz2⟩ := info_parts Tryd.infoU8
  have hj2 : (1 : Int) ≤ (n : Int) := by omega
  simp [Instr.sliceAt, Instr.slice, Instr.sliceBounds, Instr.sliceBound, asIntOf, Sem.run_bind, run_underlying Tryd.underlying22, hj2, sizeOf, typeInfo, hi, hz1]
  split <;> rfl
theorem Lie.tail {w : World} {b o cap x : Nat} {r : List Nat} (h : Lie w (some ⟨b, o, none⟩) cap (x :: r)) : Lie w (some (if cap = 1 then ⟨b, o, none⟩ else ⟨b, o + 1, none⟩)) (cap - 1) r := by
  have hc := h.1
  rw [List.length_cons] at hc
  refine ⟨by omega, (by simp), fun k hk => ?_⟩
  rw [if_neg (by omega)]
  refine ⟨b, o + 1, rfl, ?_⟩
  obtain ⟨b', o', e, h2⟩ := h.2.2 (k + 1) (by simpa using hk)
  cases e
  rw [show o + 1 + k = o + (k + 1) by omega]
  simpa using h2
/-- A program's bytes behind the first. -/
theorem prog_tail {w : World} {ao : Option Addr} {M cap : Nat} {L : List O4} (h : Lie w ao cap (encP L)) (hM : M = (encP L).length) (hl : L.length ≤ 63) : ∃ A c1, 1 ≤ M ∧ M - 1 = (encL L).length ∧ (∀ w', (Instr.sliceAt 22 (.slice ao M cap) (some (.int .i64 1)) none none).run Tryd.prog w' = .ok (.slice A (M - 1) c1) w') ∧ Lie w A c1 (encL L) := by
  have he : encP L = (2 * L.length) :: encL L := by unfold encP; rw [count_one _ hl]; rfl
  rw [he] at h hM
  rw [List.length_cons] at hM
  obtain ⟨b, o, rfl, _⟩ := h.2.2 0 (by simp)
  exact ⟨_, _, by omega, by omega, fun w' => slice_from1B b o M cap (by omega) w', h.tail⟩

theorem OwnA.lit0 {t : TypeId} {m : Nat} (w : World) (B : Nat) (hB : B ≤ w.heap.size) : OwnA t m (w.alloc (.cells #[] t)) B (some ⟨w.heap.size, 0, none⟩) 0 0 [] := by
  refine ⟨by simp, rfl, Nat.le_refl _, Nat.zero_le _, (fun e => by cases e), fun ad e => ?_⟩
  cases e
  exact ⟨w.heap.size, 0, #[], rfl, hB, heap_alloc_new _ _, by simp, fun j u hj => by simp at hj⟩

theorem step_concatG {w : World} {ops : Array Oper} {o : Oper} {a : Act} {K : Act → World → Prop} {Q : Exit → Act → World → Prop} {E : Prop} (hw : Region.wanted o (yielded ops a.tmps) = true) (s x : Operand)
    (ho : o.op = .call { callee := .builtin .append, args := #[s, x], argTypes := #[22, 22] }) (B : Nat) (w0 : World)
    (ao ao2 : Option Addr) (n cap m cap2 : Nat) (bs new : List Nat) (hs : a.eval s = .slice ao n cap) (hown : Own w B ao n cap bs) (hx : a.eval x = .slice ao2 m cap2) (hm : m = new.length) (hL : Lie w ao2 cap2 new)
    (hb : Below B w0 w) (hB : B ≤ w.heap.size) (hlen : n + m ≤ 140737488355328)
    (h : ∀ ao' cap' w', Hid (Own w' B ao' (n + m) cap' (bs ++ new)) → Hid (Below B w0 w') → K (a.put o.dst (.slice ao' (n + m) cap')) w') :
    if Region.wanted o (yielded ops a.tmps) = true then Oper.wp Tryd.prog o a w K Q else E := by
  rw [if_pos hw]
  exact wp_concat s x ho B w0 ao ao2 n cap m cap2 bs new hs hown hx hm hL hb hB hlen h

set_option maxHeartbeats 3200000 in
set_option maxRecDepth 20000 in
theorem progBytes_any (w : World) (sa : Nat → Addr) (hE : Env10 w sa) (al : Option Addr) (N1 cal : Nat) (L1 : List O4) (hN1 : N1 = L1.length) (hI1 : RowO w al cal L1) (hx1 : ∀ x ∈ L1, O32 x) (am : Option Addr) (N2 cam : Nat) (L2 : List O4) (hN2 : N2 = L2.length) (hI2 : RowO w am cam L2) (hx2 : ∀ x ∈ L2, O32 x) (n : Int) :
    Calls Tryd.prog 7 #[.slice al N1 cal, .slice am N2 cam, .int .i64 n] w fun r w' => r = .returned (.bool true) ∧ Below w.heap.size w w' := by
  have HE := Hid.in hE
  have HN1 := Hid.in hN1
  have HI1 := Hid.in hI1
  have HX1 := Hid.in hx1
  have HN2 := Hid.in hN2
  have HI2 := Hid.in hI2
  have HX2 := Hid.in hx2
  clear hE hN1 hI1 hx1 hN2 hI2 hx2
  obtain ⟨m, hm⟩ : ∃ m, wI n 1 128 = m := ⟨_, rfl⟩
  have hm12 := wI_le n 1 128 (by decide)
  rw [hm] at hm12
  obtain ⟨hm1, hm2⟩ := hm12
  have HM := Hid.in hm
  clear hm
  go_enter Tryd.func7, Tryd.ntmps7
  go_wp2_with fail
  refine (within_i n 1 128 _ (by decide) (by decide) (by decide)).mono ?_
  rw [HM.out]
  rintro r w ⟨rfl, rfl⟩
  go_upto_block 0 with fail
  go_cut [8, 10] (fun s i wx => ∃ (ao : Option Addr) (cap M : Nat) (own : List O4), s = .slice ao M cap ∧ M ≤ 20 ∧ OwnO wx w.heap.size ao M cap own ∧ (∀ x ∈ own, rt x m = true ∧ O32 x) ∧ Below w.heap.size w wx)
  case first =>
    go_wp2
    go_loopw [8, 10] (fun l i wr => ∃ (j : Nat) (ao : Option Addr) (cap M : Nat) (own : List O4), j ≤ N1 ∧ j ≤ 20 ∧ M ≤ j ∧ i = .int .i64 (j : Int) ∧ l = .slice ao M cap ∧ OwnO wr w.heap.size ao M cap own ∧ (∀ x ∈ own, rt x m = true ∧ O32 x) ∧ Below w.heap.size w wr) (fun _ i _ => 20 - (intOf i).toNat)
    case atStart => exact ⟨0, none, 0, 0, [], Nat.zero_le _, Nat.zero_le _, Nat.le_refl _, rfl, rfl, OwnA.nil _ _ _ _, by simp, Below.refl _ _⟩
    case round =>
      obtain ⟨j, ao, cap, M, own, hjN, hj40, hMj, rfl, rfl, hO, hR, hb⟩ := hrel
      have HO := Hid.in hO
      have HR := Hid.in hR
      have HB := Hid.in hb
      clear hO hR hb
      by_cases hlt : j < N1 ∧ j < 20
      · obtain ⟨hlt1, hlt2⟩ := hlt
        obtain ⟨b, o, k, a, v, d, rfl, x0, x1, x2, x3, hj2⟩ := (HI1.out.step HB.out).oat j (by have := HN1.out; omega)
        have HJ := Hid.in hj2
        have HC := Hid.in (And.intro x0 (And.intro x1 (And.intro x2 x3)))
        clear hj2
        have i1 : (j : Int) < (N1 : Int) := by omega
        have i2 : (j : Int) < 20 := by omega
        go_wp2_with fail
        refine (right_any k a v d m wr).mono ?_
        by_cases hrt : rt (k, a, v, d) m = true
        · rw [hrt]
          have HRT := Hid.in hrt
          clear hrt
          rintro r w2 ⟨rfl, hb2⟩
          have HB2 := Hid.in (bstep HB.out (Nat.le_refl _) hb2)
          have HO2 := Hid.in (HO.out.step hb2)
          clear x0 x1 x2 x3
          have x0 : w2.cell? ⟨b, o + j * 4, none⟩ = some (.int .i64 k) := (hb2.cell (p := ⟨b, o + j * 4, none⟩) (lt_cell HC.out.1)).trans HC.out.1
          have x1 : w2.cell? ⟨b, o + j * 4 + 1, none⟩ = some (.int .i64 a) := (hb2.cell (p := ⟨b, o + j * 4 + 1, none⟩) (lt_cell HC.out.2.1)).trans HC.out.2.1
          have x2 : w2.cell? ⟨b, o + j * 4 + 2, none⟩ = some (.int .u32 v) := (hb2.cell (p := ⟨b, o + j * 4 + 2, none⟩) (lt_cell HC.out.2.2.1)).trans HC.out.2.2.1
          have x3 : w2.cell? ⟨b, o + j * 4 + 3, none⟩ = some (.int .u32 d) := (hb2.cell (p := ⟨b, o + j * 4 + 3, none⟩) (lt_cell HC.out.2.2.2)).trans HC.out.2.2.2
          clear hb2
          have HO3 : Hid (OwnO (w2.alloc (.cells #[.int .i64 k, .int .i64 a, .int .u32 v, .int .u32 d] 29)) w.heap.size ao M cap own) := Hid.in (HO2.out.step (below_alloc _ _))
          have HS3 : Hid (Rows' 4 (w2.alloc (.cells #[.int .i64 k, .int .i64 a, .int .u32 v, .int .u32 d] 29)) (some ⟨w2.heap.size, 0, none⟩) 1 [oc (k, a, v, d)]) := Hid.in (Rows'.lit 4 w2 29 (oc (k, a, v, d)) _ rfl rfl (oc_one _))
          have HBB : Hid (w.heap.size ≤ (w2.alloc (.cells #[.int .i64 k, .int .i64 a, .int .u32 v, .int .u32 d] 29)).heap.size) := Hid.in (by have := HB2.out.size; simp; omega)
          have hj1 : M + 1 ≤ 1000000 := by omega
          go_wp2_with (at_builtin; refine wpList_concatA rfl 30 29 4 24 _ (.tmp 36) (.tmp 41) rfl Tryd.underlying30 Tryd.infoOp rfl (by decide) (by decide) w.heap.size ao (some ⟨w2.heap.size, 0, none⟩) M cap 1 1 (own.map oc) [oc (k, a, v, d)] rfl HO3.out rfl rfl HS3.out HBB.out hj1 ?_; intro ao5 cap5 w5 HO5 HG5 _ _)
          go_roundw
          case rel =>
            refine ⟨j + 1, ao5, cap5, M + 1, own ++ [(k, a, v, d)], by omega, by omega, by omega, by go_num, rfl, ?_, ?_, ?_⟩
            · have h := HO5.out
              rw [show own.map oc ++ [oc (k, a, v, d)] = (own ++ [(k, a, v, d)]).map oc by simp] at h
              exact h
            · intro x hx
              rcases List.mem_append.1 hx with hx | hx
              · exact HR.out x hx
              · rw [List.mem_singleton.1 hx]; exact ⟨HRT.out, HX1.out _ (List.mem_of_getElem? HJ.out)⟩
            · exact below_row (bstep HB2.out (Nat.le_refl _) (below_alloc _ _)) HG5.out HBB.out (fun b hb => (HO2.out.blk b hb).1)
          case measure => simp [intOf]; omega
        · have hrf : rt (k, a, v, d) m = false := by simpa using hrt
          rw [hrf]
          clear hrt hrf
          rintro r w2 ⟨rfl, hb2⟩
          have HB2 := Hid.in (bstep HB.out (Nat.le_refl _) hb2)
          have HO2 := Hid.in (HO.out.step hb2)
          clear x0 x1 x2 x3 hb2
          go_wp2
          go_roundw
          case rel => exact ⟨j + 1, ao, cap, M, own, by omega, by omega, by omega, by go_num, rfl, HO2.out, HR.out, HB2.out⟩
          case measure => simp [intOf]; omega
      · by_cases hl1 : j < N1
        · have hl2 : ¬ j < 20 := by omega
          clear hlt
          go_wp2_with fail
          go_meet
          case rel => exact ⟨ao, cap, M, own, rfl, by omega, HO.out, HR.out, HB.out⟩
        · clear hlt
          go_wp2_with fail
          go_meet
          case rel => exact ⟨ao, cap, M, own, rfl, by omega, HO.out, HR.out, HB.out⟩
  case rest =>
  obtain ⟨aA, cA, MA, LA, rfl, hMA, hOA, hRA, hbA⟩ := hcut
  rename World => wA
  have HOA := Hid.in hOA
  have HRA := Hid.in hRA
  have HBA := Hid.in hbA
  have HIB := Hid.in (HI2.out.step hbA)
  clear hOA hRA hbA HI1 HI2 HN1 HX1
  go_upto_block 2 with fail
  go_cut [9, 11] (fun s i wx => ∃ (ao : Option Addr) (cap M : Nat) (own : List O4), s = .slice ao M cap ∧ M ≤ 20 ∧ OwnO wx wA.heap.size ao M cap own ∧ (∀ x ∈ own, rt x m = true ∧ O32 x) ∧ Below wA.heap.size wA wx)
  case first =>
    go_wp2
    go_loopw [9, 11] (fun l i wr => ∃ (j : Nat) (ao : Option Addr) (cap M : Nat) (own : List O4), j ≤ N2 ∧ j ≤ 20 ∧ M ≤ j ∧ i = .int .i64 (j : Int) ∧ l = .slice ao M cap ∧ OwnO wr wA.heap.size ao M cap own ∧ (∀ x ∈ own, rt x m = true ∧ O32 x) ∧ Below wA.heap.size wA wr) (fun _ i _ => 20 - (intOf i).toNat)
    case atStart => exact ⟨0, none, 0, 0, [], Nat.zero_le _, Nat.zero_le _, Nat.le_refl _, rfl, rfl, OwnA.nil _ _ _ _, by simp, Below.refl _ _⟩
    case round =>
      obtain ⟨j, ao, cap, M, own, hjN, hj40, hMj, rfl, rfl, hO, hR, hb⟩ := hrel
      have HO := Hid.in hO
      have HR := Hid.in hR
      have HB := Hid.in hb
      clear hO hR hb
      by_cases hlt : j < N2 ∧ j < 20
      · obtain ⟨hlt1, hlt2⟩ := hlt
        obtain ⟨b, o, k, a, v, d, rfl, x0, x1, x2, x3, hj2⟩ := (HIB.out.step HB.out).oat j (by have := HN2.out; omega)
        have HJ := Hid.in hj2
        have HC := Hid.in (And.intro x0 (And.intro x1 (And.intro x2 x3)))
        clear hj2
        have i1 : (j : Int) < (N2 : Int) := by omega
        have i2 : (j : Int) < 20 := by omega
        go_wp2_with fail
        refine (right_any k a v d m wr).mono ?_
        by_cases hrt : rt (k, a, v, d) m = true
        · rw [hrt]
          have HRT := Hid.in hrt
          clear hrt
          rintro r w2 ⟨rfl, hb2⟩
          have HB2 := Hid.in (bstep HB.out (Nat.le_refl _) hb2)
          have HO2 := Hid.in (HO.out.step hb2)
          clear x0 x1 x2 x3
          have x0 : w2.cell? ⟨b, o + j * 4, none⟩ = some (.int .i64 k) := (hb2.cell (p := ⟨b, o + j * 4, none⟩) (lt_cell HC.out.1)).trans HC.out.1
          have x1 : w2.cell? ⟨b, o + j * 4 + 1, none⟩ = some (.int .i64 a) := (hb2.cell (p := ⟨b, o + j * 4 + 1, none⟩) (lt_cell HC.out.2.1)).trans HC.out.2.1
          have x2 : w2.cell? ⟨b, o + j * 4 + 2, none⟩ = some (.int .u32 v) := (hb2.cell (p := ⟨b, o + j * 4 + 2, none⟩) (lt_cell HC.out.2.2.1)).trans HC.out.2.2.1
          have x3 : w2.cell? ⟨b, o + j * 4 + 3, none⟩ = some (.int .u32 d) := (hb2.cell (p := ⟨b, o + j * 4 + 3, none⟩) (lt_cell HC.out.2.2.2)).trans HC.out.2.2.2
          clear hb2
          have HO3 : Hid (OwnO (w2.alloc (.cells #[.int .i64 k, .int .i64 a, .int .u32 v, .int .u32 d] 29)) wA.heap.size ao M cap own) := Hid.in (HO2.out.step (below_alloc _ _))
          have HS3 : Hid (Rows' 4 (w2.alloc (.cells #[.int .i64 k, .int .i64 a, .int .u32 v, .int .u32 d] 29)) (some ⟨w2.heap.size, 0, none⟩) 1 [oc (k, a, v, d)]) := Hid.in (Rows'.lit 4 w2 29 (oc (k, a, v, d)) _ rfl rfl (oc_one _))
          have HBB : Hid (wA.heap.size ≤ (w2.alloc (.cells #[.int .i64 k, .int .i64 a, .int .u32 v, .int .u32 d] 29)).heap.size) := Hid.in (by have := HB2.out.size; simp; omega)
          have hj1 : M + 1 ≤ 1000000 := by omega
          go_wp2_with (at_builtin; refine wpList_concatA rfl 30 29 4 24 _ (.tmp 59) (.tmp 64) rfl Tryd.underlying30 Tryd.infoOp rfl (by decide) (by decide) wA.heap.size ao (some ⟨w2.heap.size, 0, none⟩) M cap 1 1 (own.map oc) [oc (k, a, v, d)] rfl HO3.out rfl rfl HS3.out HBB.out hj1 ?_; intro ao5 cap5 w5 HO5 HG5 _ _)
          go_roundw
          case rel =>
            refine ⟨j + 1, ao5, cap5, M + 1, own ++ [(k, a, v, d)], by omega, by omega, by omega, by go_num, rfl, ?_, ?_, ?_⟩
            · have h := HO5.out
              rw [show own.map oc ++ [oc (k, a, v, d)] = (own ++ [(k, a, v, d)]).map oc by simp] at h
              exact h
            · intro x hx
              rcases List.mem_append.1 hx with hx | hx
              · exact HR.out x hx
              · rw [List.mem_singleton.1 hx]; exact ⟨HRT.out, HX2.out _ (List.mem_of_getElem? HJ.out)⟩
            · exact below_row (bstep HB2.out (Nat.le_refl _) (below_alloc _ _)) HG5.out HBB.out (fun b hb => (HO2.out.blk b hb).1)
          case measure => simp [intOf]; omega
        · have hrf : rt (k, a, v, d) m = false := by simpa using hrt
          rw [hrf]
          clear hrt hrf
          rintro r w2 ⟨rfl, hb2⟩
          have HB2 := Hid.in (bstep HB.out (Nat.le_refl _) hb2)
          have HO2 := Hid.in (HO.out.step hb2)
          clear x0 x1 x2 x3 hb2
          go_wp2
          go_roundw
          case rel => exact ⟨j + 1, ao, cap, M, own, by omega, by omega, by omega, by go_num, rfl, HO2.out, HR.out, HB2.out⟩
          case measure => simp [intOf]; omega
      · by_cases hl1 : j < N2
        · have hl2 : ¬ j < 20 := by omega
          clear hlt
          go_wp2_with fail
          go_meet
          case rel => exact ⟨ao, cap, M, own, rfl, by omega, HO.out, HR.out, HB.out⟩
        · clear hlt
          go_wp2_with fail
          go_meet
          case rel => exact ⟨ao, cap, M, own, rfl, by omega, HO.out, HR.out, HB.out⟩
  case rest =>
  obtain ⟨aB, cB, MB, LB, rfl, hMB, hOB, hRB, hbB⟩ := hcut
  rename World => wB
  have HOB := Hid.in hOB
  have HRB := Hid.in hRB
  have HOA2 := Hid.in (HOA.out.step hbB)
  have HBB := Hid.in (bstep HBA.out (Nat.le_refl _) hbB)
  clear hOB hRB hbB HOA HIB HN2 HX2 HBA
  have HMA : Hid (MA = LA.length) := Hid.in HOA2.out.olen
  have HMB : Hid (MB = LB.length) := Hid.in HOB.out.olen
  go_wp2_with fail
  refine (put_ok aA MA cA LA m wB sa (HE.out.below HBB.out) HMA.out (by omega) HOA2.out.rowO HRA.out).mono ?_
  rintro r w1 ⟨ax, Mx, cx, rfl, hMx, hLx, hb1⟩
  have HMx := Hid.in hMx
  have HLx := Hid.in hLx
  have HB1 := Hid.in (bstep HBB.out (Nat.le_refl _) hb1)
  have HOA3 := Hid.in (HOA2.out.step hb1)
  have HOB3 := Hid.in (HOB.out.step hb1)
  clear hMx hLx hb1 HOA2 HOB HBB
  go_wp2_with fail
  refine (put_ok aB MB cB LB m w1 sa (HE.out.below HB1.out) HMB.out (by omega) HOB3.out.rowO HRB.out).mono ?_
  rintro r w2 ⟨ay, My, cy, rfl, hMy, hLy, hb2⟩
  have HMy := Hid.in hMy
  have HLy := Hid.in hLy
  have HLx2 := Hid.in (HLx.out.step hb2)
  have HB2 := Hid.in (bstep HB1.out (Nat.le_refl _) hb2)
  have HOA4 := Hid.in (HOA3.out.step hb2)
  have HOB4 := Hid.in (HOB3.out.step hb2)
  clear hMy hLy hb2 HOA3 HOB3 HB1 HLx
  have HZ0 : Hid (OwnA 29 4 (w2.alloc (.cells #[] 29)) w2.heap.size (some ⟨w2.heap.size, 0, none⟩) 0 0 []) := Hid.in (OwnA.lit0 w2 _ (Nat.le_refl _))
  have HSA : Hid (Rows' 4 (w2.alloc (.cells #[] 29)) aA cA (LA.map oc)) := Hid.in (HOA4.out.step (below_alloc _ _)).rowO
  have HSL : Hid (MA = (LA.map oc).length) := Hid.in (by rw [List.length_map]; exact HMA.out)
  have HSLB : Hid (MB = (LB.map oc).length) := Hid.in (by rw [List.length_map]; exact HMB.out)
  have hz1 : w2.heap.size ≤ (w2.alloc (.cells #[] 29)).heap.size := by simp
  have HZ1 := Hid.in hz1
  clear hz1
  have hz2 : 0 + MA ≤ 1000000 := by omega
  have hz3 : MA + MB ≤ 1000000 := by omega
  go_wp2_with (first
    | (at_builtin; refine wpList_concatA rfl 30 29 4 24 _ (.tmp 79) (.tmp 80) rfl Tryd.underlying30 Tryd.infoOp rfl (by decide) (by decide) w2.heap.size (some ⟨w2.heap.size, 0, none⟩) aA 0 0 MA cA [] (LA.map oc) rfl HZ0.out rfl HSL.out HSA.out HZ1.out hz2 ?_; intro a5 c5 w5 HO5 HG5 _ _; simp only [Nat.zero_add, List.nil_append] at HO5; have HB5 : Hid (Below w2.heap.size w2 w5) := Hid.in (below_row (below_alloc _ _) HG5.out HZ1.out (fun b hb => by cases hb; exact Nat.le_refl _)); have HSB : Hid (Rows' 4 w5 aB cB (LB.map oc)) := Hid.in (HOB4.out.step HB5.out).rowO; have HZ5 : Hid (w2.heap.size ≤ w5.heap.size) := Hid.in HB5.out.size)
    | (at_builtin; refine wpList_concatA rfl 30 29 4 24 _ (.tmp 81) (.tmp 82) rfl Tryd.underlying30 Tryd.infoOp rfl (by decide) (by decide) w2.heap.size a5 aB MA c5 MB cB (LA.map oc) (LB.map oc) rfl HO5.out rfl HSLB.out HSB.out HZ5.out hz3 ?_; intro a6 c6 w6 HO6 HG6 _ _; have HB6 : Hid (Below w2.heap.size w2 w6) := Hid.in (below_row HB5.out HG6.out HZ5.out (fun b hb => (HO5.out.blk b hb).1)))
    | fail)
  have HO6L : Hid (OwnO w6 w2.heap.size a6 (MA + MB) c6 (LA ++ LB)) := Hid.in (by have h := HO6.out; rwa [← List.map_append] at h)
  have HRAB : Hid (∀ x ∈ LA ++ LB, rt x m = true ∧ O32 x) := Hid.in (fun x hx => by
    rcases List.mem_append.1 hx with hx | hx
    · exact HRA.out x hx
    · exact HRB.out x hx)
  have HMAB : Hid (MA + MB = (LA ++ LB).length) := Hid.in (by rw [List.length_append, HMA.out, HMB.out])
  refine (put_ok a6 (MA + MB) c6 (LA ++ LB) m w6 sa (HE.out.below (bstep HB2.out (Nat.le_refl _) HB6.out)) HMAB.out (by omega) HO6L.out.rowO HRAB.out).mono ?_
  rintro r w7 ⟨az, Mz, cz, rfl, hMz, hLz, hb7⟩
  have HB7 := Hid.in (bstep HB2.out (Nat.le_refl _) (bstep HB6.out (Nat.le_refl _) hb7))
  obtain ⟨Ax, dx, hx1, hx2, hx3, hx4⟩ := prog_tail ((HLx2.out.step HB6.out).step hb7) HMx.out (by have := HMA.out; omega)
  obtain ⟨Ay, dy, hy1, hy2, hy3, hy4⟩ := prog_tail ((HLy.out.step HB6.out).step hb7) HMy.out (by have := HMB.out; omega)
  obtain ⟨Az, dz, hz1, hz2, hz3', hz4⟩ := prog_tail hLz hMz (by have := HMAB.out; omega)
  have HLEN : Hid ((encL LA).length ≤ 3000 ∧ (encL LB).length ≤ 3000) := Hid.in (by
    have h1 := encL_len LA HRA.out
    have h2 := encL_len LB HRB.out
    have := HMA.out
    have := HMB.out
    omega)
  obtain ⟨Kx, hKx⟩ : ∃ Kx, Mx - 1 = Kx := ⟨_, rfl⟩
  obtain ⟨Ky, hKy⟩ : ∃ Ky, My - 1 = Ky := ⟨_, rfl⟩
  obtain ⟨Kz, hKz⟩ : ∃ Kz, Mz - 1 = Kz := ⟨_, rfl⟩
  rw [hKx] at hx2 hx3
  rw [hKy] at hy2 hy3
  rw [hKz] at hz2 hz3'
  have HX2 := Hid.in hx2
  have HX4 := Hid.in hx4
  have HY2 := Hid.in hy2
  have HY4 := Hid.in hy4
  have HZ2 := Hid.in hz2
  have HZ4 := Hid.in hz4
  have nx : 0 < Mx := by omega
  have ny : 0 < My := by omega
  have nz : 0 < Mz := by omega
  have ix : (0 : Int) < (Mx : Int) := by omega
  have iy : (0 : Int) < (My : Int) := by omega
  have iz : (0 : Int) < (Mz : Int) := by omega
  clear hx2 hx4 hy2 hy4 hz2 hz4 hKx hKy hKz hMz hLz hb7 HO6 HG6 HO5 HG5 HB5 HB6 HZ0 HSA HSB HZ5 HZ1 HLx2 HLy HMx HMy HO6L HOA4 HOB4 HB2 HSL HSLB hz3
  go_upto_region 16 with fail
  have hbr : Below w7.heap.size w7 w7 := Below.refl _ _
  have hbd : ∀ W, Below w7.heap.size w7 W → Below w7.heap.size w7 W.drew := fun W h => h.drew
  have hba : ∀ W o, Below w7.heap.size w7 W → Below w7.heap.size w7 (W.alloc o) := fun W o h => h.alloc h.size o
  have HO1 : Hid (Own (w7.alloc (.cells #[] 5)).drew w7.heap.size (some ⟨w7.heap.size, 0, none⟩) 0 0 []) := Hid.in ((Own.lit0 w7 _ (Nat.le_refl _)).step (Below.refl _ _).drew)
  have HXd : Hid (Lie (w7.alloc (.cells #[] 5)).drew Ax dx (encL LA)) := Hid.in (HX4.out.step (below_alloc _ _).drew)
  have HBd : Hid (Below w7.heap.size w7 (w7.alloc (.cells #[] 5)).drew) := Hid.in (below_alloc _ _).drew
  have hk1 : 0 + Kx ≤ 140737488355328 := by have := HX2.out; have := HLEN.out; omega
  have hk2 : Kx + Ky ≤ 140737488355328 := by have := HX2.out; have := HY2.out; have := HLEN.out; omega
  go_region_held3 (fun W => Below w7.heap.size w7 W) (first | go_keep | (simp [*]; done))
    (first
      | (refine step_concatG (by rfl) (.tmp 116) (.tmp 118) rfl w7.heap.size w7 (some ⟨w7.heap.size, 0, none⟩) Ax 0 0 Kx dx [] (encL LA) (by simp [Act.eval]) HO1.out (by simp [Act.eval]) HX2.out HXd.out HBd.out (by simp) hk1 ?_; intro a8 c8 w8 HO8 HB8; simp only [Nat.zero_add, List.nil_append] at HO8; have hb8 := HB8.out; have HYd : Hid (Lie w8 Ay dy (encL LB)) := Hid.in (HY4.out.step HB8.out); have hs8 : w7.heap.size ≤ w8.heap.size := HB8.out.size)
      | (refine step_concatG (by rfl) (.tmp 119) (.tmp 121) rfl w7.heap.size w7 a8 Ay Kx c8 Ky dy (encL LA) (encL LB) (by simp [Act.eval]) HO8.out (by simp [Act.eval]) HY2.out HYd.out HB8.out hs8 hk2 ?_; intro a9 c9 w9 HO9 HB9; have hb9 := HB9.out)
      | (go_at_call 11; refine (same_any Az a9 Kz (Kx + Ky) dz c9 (encL (LA ++ LB)) (encL LA ++ encL LB) w9 HZ2.out (by rw [List.length_append, HX2.out, HY2.out]) (HZ4.out.step HB9.out) HO9.out.lie (by rw [encL_append, List.length_append]; have := HLEN.out; omega)).mono ?_; rw [show decide (encL (LA ++ LB) = encL LA ++ encL LB) = true from decide_eq_true (encL_append LA LB)]; rintro r w10 ⟨rfl, hq10⟩; have hb10 : Below w7.heap.size w7 w10 := bstep hb9 (Nat.le_refl _) hq10; have HB10 := Hid.in hb10; clear hq10)
      | (go_at_call 3; refine (progRuns_any w10 sa (HE.out.below (bstep HB7.out (Nat.le_refl _) HB10.out))).mono ?_; rintro r w11 ⟨rfl, hq11⟩; have hb11 : Below w7.heap.size w7 w11 := bstep hb10 (Nat.le_refl _) hq11; have HB11 := Hid.in hb11; clear hq11))
  have HBE := Hid.in (bstep HB7.out (Nat.le_refl _) HB11.out)
  clear hbr hbd hba hb8 hb9 hb10 hb11
  go_wp2
  go_ret
  exact ⟨rfl, HBE.out⟩

end Go.Proofs.YtbanihjjeicdaaaDoor

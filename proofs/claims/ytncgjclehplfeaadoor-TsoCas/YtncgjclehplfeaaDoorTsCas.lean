/- DERIVED of the program: TsoCas returns true. Own work. -/
import Derived.Test.YtncgjclehplfeaaDoorTsK
import Derived.Test.YtncgjclehplfeaaDoorGenW
import Derived.Deep.CutBlock
namespace Go.Proofs.YtncgjclehplfeaaDoor
open Go.RowKit Go.Extern.Stop Go.Stop Go.Extern

theorem cas_ok (n c m : Nat) (hc : c < n) (z : Int) : refP (List.replicate n []) [(m : Int)] ⟨4, c, 0, m, z, true⟩ = 0 ∧ stepS (List.replicate n [], [(m : Int)]) ⟨4, c, 0, m, z, true⟩ = (List.replicate n [], [z]) := by
  have l1 : c < (List.replicate n ([] : List (Int × Int))).length := by simpa using hc
  have hL : (List.replicate n ([] : List (Int × Int))).getD c [] = [] := by simp [List.getD, hc]
  exact ⟨(ref_cas (List.replicate n [], [(m : Int)]) c 0 m z true l1 (by simp) hL).trans (if_pos rfl), step_cas (s := (List.replicate n [], [(m : Int)])) (a := 0) l1 (by simp) hL rfl⟩
theorem cas_no (n c m : Nat) (hc : c < n) (z : Int) : refP (List.replicate n []) [(m : Int)] ⟨4, c, 0, (m : Int) + 1, z, true⟩ = 10 := by
  have l1 : c < (List.replicate n ([] : List (Int × Int))).length := by simpa using hc
  have hL : (List.replicate n ([] : List (Int × Int))).getD c [] = [] := by simp [List.getD, hc]
  rw [show (0 : Int) = ((0 : Nat) : Int) from rfl, ref_cas (List.replicate n [], [(m : Int)]) c 0 _ z true l1 (by simp) hL, if_neg]
  simp only [List.getD_cons_zero]
  omega

set_option maxHeartbeats 6400000 in
set_option maxRecDepth 20000 in
theorem tsoCas_any (w : World) (sa : Nat → Addr) (hE : Env10 w sa) (n0 : Int) (ao : Option Addr) (nw capw : Nat) (hI : IntsW w ao nw) (al : Option Addr) (nl capl : Nat) (hB : BoolsW w al nl) :
    Calls Tryd.prog 8 #[.int .i64 n0, .slice ao nw capw, .slice al nl capl] w fun r w' => r = .returned (.bool true) ∧ Below w.heap.size w w' := by
  have HE := Hid.in hE
  have HI := Hid.in hI
  have HL := Hid.in hB
  clear hE hI hB
  have hw0 := wI_le n0 1 8 (by omega)
  obtain ⟨n, hn⟩ : ∃ m : Nat, wI n0 1 8 = (m : Int) := ⟨(wI n0 1 8).toNat, by omega⟩
  have hn1 : 1 ≤ n := by omega
  have hn8 : n ≤ 8 := by omega
  have HN := Hid.in hn
  have hsub : IntKind.i64.wrap ((n : Int) - 1) = (n : Int) - 1 := wrapI (by omega) (by omega)
  clear hn hw0
  go_enter Tryd.func8, Tryd.ntmps8
  go_wp2_with fail
  refine (within_i n0 1 8 w (by omega) (by omega) (by omega)).mono ?_
  rw [HN.out]
  rintro r w' ⟨rfl, rfl⟩
  go_wp2_with fail
  refine (at_new w' w' (Below.refl _ _) n 1 (by omega) (by omega) (by decide) (by decide)).mono ?_
  rintro r w1 ⟨q, S, rfl, hA, _, _⟩
  have HA1 := Hid.in hA
  clear hA
  go_wp2
  go_loopw [10, 11] (fun x y wr => ∃ (i m : Nat) (S : List Nat), i ≤ nw ∧ i ≤ 40 ∧ m ≤ i ∧ x = .int .u32 (m : Int) ∧ y = .int .i64 (i : Int) ∧ At w' wr q S i (List.replicate n [], [(m : Int)])) (fun _ y _ => 40 - (intOf y).toNat)
  case atStart => exact ⟨0, 0, S, Nat.zero_le _, Nat.zero_le _, Nat.zero_le _, rfl, rfl, HA1.out⟩
  case round =>
    obtain ⟨i, m, Si, hi, hi40, hm, rfl, rfl, hA⟩ := hrel
    clear HA1
    have HA2 := Hid.in hA
    clear hA
    by_cases hlt : i < nw ∧ i < 40
    · obtain ⟨hin, hi4⟩ := hlt
      obtain ⟨b, o, z, rfl, x0⟩ := HI.out.at i hin
      have y0 := (HA2.out.b.cell (p := ⟨b, o + i, none⟩) (lt_cell x0)).trans x0
      have i1 : (i : Int) < (nw : Int) := by omega
      have i2 : (i : Int) < 40 := by omega
      have hw1 := wI_le z 0 ((n : Int) - 1) (by omega)
      obtain ⟨c, hc⟩ : ∃ m : Nat, wI z 0 ((n : Int) - 1) = (m : Int) := ⟨(wI z 0 ((n : Int) - 1)).toNat, by omega⟩
      have hcn : c < n := by omega
      have HC := Hid.in hc
      have hm1 : IntKind.u32.wrap ((m : Int) + 1) = (m : Int) + 1 := by rw [IntKind.wrap_u32]; omega
      have Y1 := Hid.in (cas_ok n c m hcn ((m : Int) + 1))
      have Y2 := Hid.in (cas_no n c m hcn ((m : Int) + 1))
      have hN : i < 100000 := by omega
      clear x0 hw1 hc
      go_wp2_with fail
      refine (within_i z 0 ((n : Int) - 1) _ (by omega) (by omega) (by omega)).mono ?_
      rw [HC.out]
      rintro r w2 ⟨rfl, rfl⟩
      go_upto_region 10 with fail
      generalize hwx : w2.alloc _ = wx
      have HAX : Hid (At w' wx q Si i (List.replicate n [], [(m : Int)])) := Hid.in (by rw [← hwx]; exact HA2.out.step (below_alloc _ _))
      have e0 : wx.cell? ⟨w2.heap.size, 0, none⟩ = some (.int .i64 4) := by rw [← hwx]; exact blk_cell (heap_alloc_new _ _) rfl
      have e1 : wx.cell? ⟨w2.heap.size, 1, none⟩ = some (.int .i64 (c : Int)) := by rw [← hwx]; exact blk_cell (heap_alloc_new _ _) rfl
      have e2 : wx.cell? ⟨w2.heap.size, 2, none⟩ = some (.int .i64 0) := by rw [← hwx]; exact blk_cell (heap_alloc_new _ _) rfl
      have e3 : wx.cell? ⟨w2.heap.size, 3, none⟩ = some (.int .u32 (m : Int)) := by rw [← hwx]; exact blk_cell (heap_alloc_new _ _) rfl
      have e4 : wx.cell? ⟨w2.heap.size, 4, none⟩ = some (.int .u32 ((m : Int) + 1)) := by rw [← hwx]; exact blk_cell (heap_alloc_new _ _) rfl
      have e5 : wx.cell? ⟨w2.heap.size, 5, none⟩ = some (.bool true) := by rw [← hwx]; exact blk_cell (heap_alloc_new _ _) rfl
      have ef : wx.frozen? ⟨w2.heap.size, 3, none⟩ = false := by rw [← hwx]; exact blk_free (heap_alloc_new _ _)
      have HFAR : Hid (w2.heap.size ∉ Si) := Hid.in (HA2.out.p.far (Nat.le_refl _))
      have HGE : Hid (w'.heap.size ≤ w2.heap.size) := Hid.in HA2.out.b.size
      clear hwx y0 HA2
      obtain ⟨lie, hlie⟩ : ∃ lie : Bool, (i < nl → ∃ lb lo, al = some ⟨lb, lo, none⟩ ∧ wx.cell? ⟨lb, lo + i, none⟩ = some (.bool lie)) ∧ (¬ i < nl → lie = false) := by
        by_cases h : i < nl
        · obtain ⟨lb, lo, zz, e, xc⟩ := HL.out.at i h
          exact ⟨zz, fun _ => ⟨lb, lo, e, (HAX.out.b.cell (p := ⟨lb, lo + i, none⟩) (lt_cell xc)).trans xc⟩, fun hh => absurd h hh⟩
        · exact ⟨false, fun hh => absurd hh h, fun _ => rfl⟩
      go_upto_region 10 with fail
      go_cut [57] (fun x wd => x = .bool lie ∧ wd = wx)
      case first =>
        by_cases h : i < nl
        · obtain ⟨lb, lo, rfl, xc⟩ := hlie.1 h
          have i3 : (i : Int) < (nl : Int) := by omega
          go_wp2
          go_meet
          case rel => exact ⟨rfl, rfl⟩
        · have i3 : ¬ (i : Int) < (nl : Int) := by omega
          have HLI := Hid.in (hlie.2 h)
          go_wp2
          go_meet
          case rel => exact ⟨by rw [HLI.out], rfl⟩
      case rest =>
        obtain ⟨rfl, hwd⟩ := hcut
        subst hwd
        rename World => wd
        cases lie with
        | true =>
          have d0 : (wd.setCell ⟨w2.heap.size, 3, none⟩ (.int .u32 ((m : Int) + 1))).cell? ⟨w2.heap.size, 0, none⟩ = some (.int .i64 4) := (World.cell?_setCell_other _ _ _ _ (by simp)).trans e0
          have d1 : (wd.setCell ⟨w2.heap.size, 3, none⟩ (.int .u32 ((m : Int) + 1))).cell? ⟨w2.heap.size, 1, none⟩ = some (.int .i64 (c : Int)) := (World.cell?_setCell_other _ _ _ _ (by simp)).trans e1
          have d2 : (wd.setCell ⟨w2.heap.size, 3, none⟩ (.int .u32 ((m : Int) + 1))).cell? ⟨w2.heap.size, 2, none⟩ = some (.int .i64 0) := (World.cell?_setCell_other _ _ _ _ (by simp)).trans e2
          have d3 : (wd.setCell ⟨w2.heap.size, 3, none⟩ (.int .u32 ((m : Int) + 1))).cell? ⟨w2.heap.size, 3, none⟩ = some (.int .u32 ((m : Int) + 1)) := World.cell?_setCell_same _ _ _ e3
          have d4 : (wd.setCell ⟨w2.heap.size, 3, none⟩ (.int .u32 ((m : Int) + 1))).cell? ⟨w2.heap.size, 4, none⟩ = some (.int .u32 ((m : Int) + 1)) := (World.cell?_setCell_other _ _ _ _ (by simp)).trans e4
          have d5 : (wd.setCell ⟨w2.heap.size, 3, none⟩ (.int .u32 ((m : Int) + 1))).cell? ⟨w2.heap.size, 5, none⟩ = some (.bool true) := (World.cell?_setCell_other _ _ _ _ (by simp)).trans e5
          have HAY : Hid (At w' (wd.setCell ⟨w2.heap.size, 3, none⟩ (.int .u32 ((m : Int) + 1))) q Si i (List.replicate n [], [(m : Int)])) := Hid.in (HAX.out.fr (T := [w2.heap.size]) ((Fr.refl _ _).setCell _ List.mem_cons_self) (fun k hk hm => HFAR.out (by rw [← List.mem_singleton.1 hm]; exact hk)) (fun k hk => by rw [List.mem_singleton.1 hk]; exact HGE.out))
          clear hlie
          go_wp2_with fail
          refine (at_no w' _ sa HE.out q _ Si _ HAY.out hN 4 (c : Int) 0 ((m : Int) + 1) ((m : Int) + 1) true 10 Y2.out (by decide)).mono ?_
          rintro r w5 ⟨rfl, S5, hA, _⟩
          have HA5 := Hid.in hA
          clear hA HAX HAY d0 d1 d2 d3 d4 d5 e0 e1 e2 e3 e4 e5
          go_wp2
          go_roundw
          case rel => exact ⟨i + 1, m, S5, by omega, by omega, by omega, rfl, by go_num, HA5.out⟩
          case measure => simp [intOf]; omega
        | false =>
          go_wp2_with fail
          refine (at_yes w' _ sa HE.out q _ Si _ _ HAX.out hN 4 (c : Int) 0 m ((m : Int) + 1) true Y1.out.1 Y1.out.2).mono ?_
          rintro r w5 ⟨rfl, S5, hA, _⟩
          have HA5 := Hid.in hA
          clear hA HAX
          go_wp2
          go_roundw
          case rel => exact ⟨i + 1, m + 1, S5, by omega, by omega, by omega, by go_num, by go_num, HA5.out⟩
          case measure => simp [intOf]; omega
    · by_cases hin : i < nw
      · have i1 : (i : Int) < (nw : Int) := by omega
        obtain rfl : i = 40 := by omega
        go_wp2_with fail
        refine (tmem_c _ q _ Si _ _ HA2.out.p).mono ?_
        rintro r w5 ⟨ma, mc, rfl, hO, hb⟩
        obtain ⟨mb, mo, x, rfl, xm, hxm⟩ := (Rows'.us hO).uat 0 (by simp)
        cases hxm
        rw [Nat.add_zero] at xm
        have HA5 := Hid.in (HA2.out.step hb)
        clear hb hO HA2
        go_wp2_with fail
        refine (tsoRuns_any _ sa (HE.out.below HA5.out.b)).mono ?_
        rintro r wz ⟨rfl, hb⟩
        have HBZ := Hid.in (bstep HA5.out.b (Nat.le_refl _) hb)
        clear hb
        go_wp2
        go_ret
        exact ⟨rfl, HBZ.out⟩
      · have i1 : ¬ (i : Int) < (nw : Int) := by omega
        go_wp2_with fail
        refine (tmem_c _ q _ Si _ _ HA2.out.p).mono ?_
        rintro r w5 ⟨ma, mc, rfl, hO, hb⟩
        obtain ⟨mb, mo, x, rfl, xm, hxm⟩ := (Rows'.us hO).uat 0 (by simp)
        cases hxm
        rw [Nat.add_zero] at xm
        have HA5 := Hid.in (HA2.out.step hb)
        clear hb hO HA2
        go_wp2_with fail
        refine (tsoRuns_any _ sa (HE.out.below HA5.out.b)).mono ?_
        rintro r wz ⟨rfl, hb⟩
        have HBZ := Hid.in (bstep HA5.out.b (Nat.le_refl _) hb)
        clear hb
        go_wp2
        go_ret
        exact ⟨rfl, HBZ.out⟩
end Go.Proofs.YtncgjclehplfeaaDoor

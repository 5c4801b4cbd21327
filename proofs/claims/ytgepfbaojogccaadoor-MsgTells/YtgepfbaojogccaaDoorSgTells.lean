/- DERIVED of the program: MsgTells returns true. Own work. -/
import Derived.Test.YtgepfbaojogccaaDoorSgQP
import Derived.Test.YtgepfbaojogccaaDoorSgQG
import Derived.Test.YtgepfbaojogccaaDoorPkG
import Derived.Test.YtgepfbaojogccaaDoorPkH
namespace Go.Proofs.YtgepfbaojogccaaDoor
open Go.RowKit Go.Extern.Stop Go.Stop Go.Extern

theorem kIs_g (sa : Nat → Addr) (l : List (ByteArray × Int)) (c : Nat) (w : World) (hE : Env10 w sa) (hc : c = 0 ∨ 3 ≤ c ∧ c ≤ 5) :
    Calls Tryd.prog 12 #[gErr sa l c, .int .i64 (c : Nat), .string opSGet, .int .i64 0] w fun r w' => r = .returned (.bool true) ∧ Below w.heap.size w w' := by
  by_cases h : c = 0
  · subst h
    exact kIs_nil opSGet _ w
  · rw [gErr_ne sa l c h]
    exact kIs_flt opSGet 0 l c (by omega) (by omega) w sa hE
theorem kOnly_g (sa : Nat → Addr) (l : List (ByteArray × Int)) (c : Nat) (w : World) (hE : Env10 w sa) (hc : c = 0 ∨ 3 ≤ c ∧ c ≤ 5) :
    Calls Tryd.prog 21 #[gErr sa l c, .int .i64 (c : Nat)] w fun r w' => r = .returned (.bool true) ∧ Below w.heap.size w w' := by
  by_cases h : c = 0
  · subst h
    exact kOnly_nil w sa hE
  · rw [gErr_ne sa l c h]
    exact kOnly_chn ((opSGet, 0) :: l) c (by omega) (by omega) w sa hE

theorem cur_get {cur : Array Value} {n : Nat} {bs : List Nat} (h : cur.toList.take (n * 1) = bys bs) (j : Nat) (hj : j < bs.length) : cur[j]? = some (.int .u8 (bs[j] : Nat)) := by
  have h1 : (cur.toList.take (n * 1))[j]? = (bys bs)[j]? := by rw [h]
  have h2 : (bys bs)[j]? = some (.int .u8 (bs[j] : Nat)) := by unfold bys; rw [List.getElem?_map, List.getElem?_eq_getElem hj]; rfl
  rw [h2, List.getElem?_take] at h1
  split at h1
  · rw [← Array.getElem?_toList]; exact h1
  · cases h1
/-- One byte of the call's own is written anew. -/
theorem Own.put {w : World} {B n cap : Nat} {ao : Option Addr} {bs : List Nat} (h : Own w B ao n cap bs) (k : Nat) (hk : k < bs.length) (x : Nat) :
    ∃ g cur, ao = some ⟨g, 0, none⟩ ∧ B ≤ g ∧ w.heap[g]? = some (.cells cur 5 (0, 0)) ∧ cur[k]? = some (.int .u8 (bs[k] : Nat)) ∧ Lie (w.setCell ⟨g, k, none⟩ (.int .u8 (x : Nat))) ao cap (bs.set k x) := by
  have hn := h.len
  obtain ⟨h1, h2⟩ := h
  rcases h2 with ⟨e, h0⟩ | ⟨g, cap', cur, e, hg, hh, hle, hm, hcs, htk⟩
  · omega
  · cases e
    refine ⟨g, cur, rfl, hg, hh, cur_get htk k hk, by rw [List.length_set]; omega, (by simp), fun j hj => ⟨g, 0, rfl, ?_⟩⟩
    rw [List.length_set] at hj
    rw [Nat.zero_add]
    refine blk_cell (blk_set _ hh) ?_
    have hks : k < cur.size := by omega
    by_cases hjk : k = j
    · subst hjk
      rw [Array.getElem?_setIfInBounds_self_of_lt hks]
      simp
    · rw [Array.getElem?_setIfInBounds_ne hjk, cur_get htk j hj]
      simp [List.getElem_set_ne hjk]
/-- What MsgTells holds against each other: the first block is the message. -/
structure SMT (w : World) (mc xc yc : Array Value) (X Y : Nat) (W : World) : Prop where
  s : SMA w mc W
  bX : W.heap[X]? = some (.cells xc 28 (0, 0))
  bY : W.heap[Y]? = some (.cells yc 28 (0, 0))
theorem SMT.step {w W W' : World} {mc xc yc : Array Value} {X Y : Nat} (h : SMT w mc xc yc X Y W) (hb : Below W.heap.size W W') : SMT w mc xc yc X Y W' := ⟨h.s.step hb, blk_step h.bX hb, blk_step h.bY hb⟩
theorem slice_300 (ao : Option Addr) (N cap : Nat) (hj : 300 ≤ cap) (w : World) : (Instr.sliceAt 22 (.slice ao N cap) none (some (.int .i64 300)) none).run Tryd.prog w = .ok (.slice ao 300 cap) w := slice_toB ao N cap 300 hj w
theorem putB_len (m : M13) (h32 : M32 m) (h64 : M64 m) : (putB m).length ≤ 110 := by
  rcases hx : rtB m with _ | _
  · rw [putB_no m hx]; exact Nat.zero_le _
  · rw [putB_yes m hx]; exact (encM_len m h32 h64).1

set_option linter.unusedSimpArgs false in
set_option maxHeartbeats 12800000 in
set_option maxRecDepth 20000 in
theorem msgTells_mid (w : World) (sa : Nat → Addr) (hE : Env10 w sa) (k c l t o e w_ v d0 d1 d2 d3 : Int) (h : Bool) (h32 : M32 (k, c, l, t, o, e, w_, v, d0, d1, d2, d3, h)) (h64 : M64 (k, c, l, t, o, e, w_, v, d0, d1, d2, d3, h)) (ab : Option Addr) (cb : Nat) (bs : List Nat) (hB : Lie w ab cb bs) (hby : ∀ x ∈ bs, x < 256) (hln : bs.length ≤ 140737488355328) (at_ : Int) (tb : Nat) (hto : tb < 256) (how : Int) :
    Calls Tryd.prog 4 #[.agg #[.int .i64 k, .int .i64 c, .int .i64 l, .int .i64 t, .int .i64 o, .int .i64 e, .int .i64 w_, .int .u32 v, .int .u32 d0, .int .u32 d1, .int .u32 d2, .int .u32 d3, .bool h], .slice ab bs.length cb, .int .i64 at_, .int .u8 (tb : Nat), .int .i64 how] w fun r w' => r = .returned (.bool true) ∧ Below w.heap.size w w' := by
  have HE := Hid.in hE
  have H32 := Hid.in h32
  have H64 := Hid.in h64
  have HLB := Hid.in hB
  have HBY := Hid.in hby
  have HS0 : Hid (SMA w #[.int .i64 k, .int .i64 c, .int .i64 l, .int .i64 t, .int .i64 o, .int .i64 e, .int .i64 w_, .int .u32 v, .int .u32 d0, .int .u32 d1, .int .u32 d2, .int .u32 d3, .bool h] (w.alloc (.cells #[.int .i64 k, .int .i64 c, .int .i64 l, .int .i64 t, .int .i64 o, .int .i64 e, .int .i64 w_, .int .u32 v, .int .u32 d0, .int .u32 d1, .int .u32 d2, .int .u32 d3, .bool h] 28))) := Hid.in ⟨heap_alloc_new _ _, below_alloc _ _⟩
  clear hE h32 h64 hB hby
  go_enter Tryd.func4, Tryd.ntmps4
  go_upto_region 1 with fail
  generalize hX : w.alloc (.cells #[.int .i64 k, .int .i64 c, .int .i64 l, .int .i64 t, .int .i64 o, .int .i64 e, .int .i64 w_, .int .u32 v, .int .u32 d0, .int .u32 d1, .int .u32 d2, .int .u32 d3, .bool h] 28) = W0 at *
  clear hX
  go_upto_if 22 with fail
  go_cut [11] (fun x we => we = W0 ∧ ∃ N : Nat, x = .slice ab N cb ∧ N = (bs.take 300).length)
  case first =>
    as_aux_lemma =>
      by_cases hl : 300 < bs.length
      · have hl2 : (300 : Int) < (bs.length : Int) := by omega
        have hsl := slice_300 ab bs.length cb (by have := HLB.out.1; omega)
        go_wp2
        go_meet
        case rel => exact ⟨rfl, 300, rfl, by rw [List.length_take]; omega⟩
      · have hl2 : ¬ (300 : Int) < (bs.length : Int) := by omega
        go_wp2
        go_meet
        case rel => exact ⟨rfl, bs.length, rfl, by rw [List.length_take]; omega⟩
  case rest =>
    obtain ⟨hw, N, rfl, hN⟩ := hcut
    subst hw
    rename World => W0
    have hL0 : Lie W0 ab cb (bs.take 300) := (HLB.out.step HS0.out.be).take 300
    have hb0 : ∀ y ∈ bs.take 300, y < 256 := fun y hy => HBY.out y (List.mem_of_mem_take hy)
    have hn0 : (bs.take 300).length ≤ 300 := by rw [List.length_take]; omega
    generalize bs.take 300 = L0 at hL0 hb0 hn0 hN
    have HL0 := Hid.in hL0
    have HB0 := Hid.in hb0
    have HN0 := Hid.in hN
    clear hL0 hb0 hN
    have hN3 : N ≤ 300 := by rw [HN0.out]; exact hn0
    have hr := fun W => qsRight_any (k, c, l, t, o, e, w_, v, d0, d1, d2, d3, h) W H64.out
    simp only [mv] at hr
    have HR := Hid.in hr
    clear hr
    go_upto_region 4 with fail
    go_cut [30] (fun x we => x = .bool (rtB (k, c, l, t, o, e, w_, v, d0, d1, d2, d3, h) && decide (0 ≤ how)) ∧ SMA w #[.int .i64 k, .int .i64 c, .int .i64 l, .int .i64 t, .int .i64 o, .int .i64 e, .int .i64 w_, .int .u32 v, .int .u32 d0, .int .u32 d1, .int .u32 d2, .int .u32 d3, .bool h] we ∧ Lie we ab cb L0)
    case first =>
      as_aux_lemma =>
        have x0 : W0.cell? ⟨w.heap.size, 0, none⟩ = some (.int .i64 k) := blk_cell HS0.out.bA rfl
        have x1 : W0.cell? ⟨w.heap.size, 1, none⟩ = some (.int .i64 c) := blk_cell HS0.out.bA rfl
        have x2 : W0.cell? ⟨w.heap.size, 2, none⟩ = some (.int .i64 l) := blk_cell HS0.out.bA rfl
        have x3 : W0.cell? ⟨w.heap.size, 3, none⟩ = some (.int .i64 t) := blk_cell HS0.out.bA rfl
        have x4 : W0.cell? ⟨w.heap.size, 4, none⟩ = some (.int .i64 o) := blk_cell HS0.out.bA rfl
        have x5 : W0.cell? ⟨w.heap.size, 5, none⟩ = some (.int .i64 e) := blk_cell HS0.out.bA rfl
        have x6 : W0.cell? ⟨w.heap.size, 6, none⟩ = some (.int .i64 w_) := blk_cell HS0.out.bA rfl
        have x7 : W0.cell? ⟨w.heap.size, 7, none⟩ = some (.int .u32 v) := blk_cell HS0.out.bA rfl
        have x8 : W0.cell? ⟨w.heap.size, 8, none⟩ = some (.int .u32 d0) := blk_cell HS0.out.bA rfl
        have x9 : W0.cell? ⟨w.heap.size, 9, none⟩ = some (.int .u32 d1) := blk_cell HS0.out.bA rfl
        have x10 : W0.cell? ⟨w.heap.size, 10, none⟩ = some (.int .u32 d2) := blk_cell HS0.out.bA rfl
        have x11 : W0.cell? ⟨w.heap.size, 11, none⟩ = some (.int .u32 d3) := blk_cell HS0.out.bA rfl
        have x12 : W0.cell? ⟨w.heap.size, 12, none⟩ = some (.bool h) := blk_cell HS0.out.bA rfl
        rcases hrt : rtB (k, c, l, t, o, e, w_, v, d0, d1, d2, d3, h) with _ | _
        · rw [hrt] at HR
          go_wp2_with fail
          refine (HR.out _).mono ?_
          rintro r w1 ⟨rfl, hb⟩
          have HS1 := Hid.in (HS0.out.step hb)
          have HL1 := Hid.in (HL0.out.step hb)
          clear hb
          go_wp2
          go_meet
          case rel => exact ⟨by simp [hrt], HS1.out, HL1.out⟩
        · rw [hrt] at HR
          by_cases hh : 0 ≤ how
          · go_wp2_with fail
            refine (HR.out _).mono ?_
            rintro r w1 ⟨rfl, hb⟩
            have HS1 := Hid.in (HS0.out.step hb)
            have HL1 := Hid.in (HL0.out.step hb)
            clear hb
            go_wp2
            go_meet
            case rel => exact ⟨by simp [hrt, hh], HS1.out, HL1.out⟩
          · go_wp2_with fail
            refine (HR.out _).mono ?_
            rintro r w1 ⟨rfl, hb⟩
            have HS1 := Hid.in (HS0.out.step hb)
            have HL1 := Hid.in (HL0.out.step hb)
            clear hb
            go_wp2
            go_meet
            case rel => exact ⟨by simp [hrt, hh], HS1.out, HL1.out⟩
    case rest =>
      obtain ⟨rfl, hs1, hl1⟩ := hcut
      rename World => W1
      have HS1 := Hid.in hs1
      have HL1 := Hid.in hl1
      clear hs1 hl1 HS0 HL0 HR
      go_upto_if 30 with fail
      go_cut [11] (fun x we => ∃ (ao : Option Addr) (N cap : Nat) (L : List Nat), x = .slice ao N cap ∧ N = L.length ∧ Lie we ao cap L ∧ (∀ y ∈ L, y < 256) ∧ L.length ≤ 301 ∧ SMA w #[.int .i64 k, .int .i64 c, .int .i64 l, .int .i64 t, .int .i64 o, .int .i64 e, .int .i64 w_, .int .u32 v, .int .u32 d0, .int .u32 d1, .int .u32 d2, .int .u32 d3, .bool h] we)
      case first =>
        as_aux_lemma =>
          by_cases hrh : (rtB (k, c, l, t, o, e, w_, v, d0, d1, d2, d3, h) && decide (0 ≤ how)) = true
          · rw [hrh]
            simp only [Bool.and_eq_true, decide_eq_true_eq] at hrh
            obtain ⟨hrt, hh⟩ := hrh
            have hq := fun W => qsPut_any (k, c, l, t, o, e, w_, v, d0, d1, d2, d3, h) W H32.out H64.out
            rw [putB_yes _ hrt] at hq
            simp only [mv] at hq
            have HQ := Hid.in hq
            have HEL := Hid.in (encM_len _ H32.out H64.out)
            have HEB := Hid.in (encM_byte (k, c, l, t, o, e, w_, v, d0, d1, d2, d3, h))
            clear hq
            have x0 : W1.cell? ⟨w.heap.size, 0, none⟩ = some (.int .i64 k) := blk_cell HS1.out.bA rfl
            have x1 : W1.cell? ⟨w.heap.size, 1, none⟩ = some (.int .i64 c) := blk_cell HS1.out.bA rfl
            have x2 : W1.cell? ⟨w.heap.size, 2, none⟩ = some (.int .i64 l) := blk_cell HS1.out.bA rfl
            have x3 : W1.cell? ⟨w.heap.size, 3, none⟩ = some (.int .i64 t) := blk_cell HS1.out.bA rfl
            have x4 : W1.cell? ⟨w.heap.size, 4, none⟩ = some (.int .i64 o) := blk_cell HS1.out.bA rfl
            have x5 : W1.cell? ⟨w.heap.size, 5, none⟩ = some (.int .i64 e) := blk_cell HS1.out.bA rfl
            have x6 : W1.cell? ⟨w.heap.size, 6, none⟩ = some (.int .i64 w_) := blk_cell HS1.out.bA rfl
            have x7 : W1.cell? ⟨w.heap.size, 7, none⟩ = some (.int .u32 v) := blk_cell HS1.out.bA rfl
            have x8 : W1.cell? ⟨w.heap.size, 8, none⟩ = some (.int .u32 d0) := blk_cell HS1.out.bA rfl
            have x9 : W1.cell? ⟨w.heap.size, 9, none⟩ = some (.int .u32 d1) := blk_cell HS1.out.bA rfl
            have x10 : W1.cell? ⟨w.heap.size, 10, none⟩ = some (.int .u32 d2) := blk_cell HS1.out.bA rfl
            have x11 : W1.cell? ⟨w.heap.size, 11, none⟩ = some (.int .u32 d3) := blk_cell HS1.out.bA rfl
            have x12 : W1.cell? ⟨w.heap.size, 12, none⟩ = some (.bool h) := blk_cell HS1.out.bA rfl
            go_wp2_with fail
            refine (HQ.out _).mono ?_
            rintro r w2 ⟨a2, M2, c2, rfl, hM2, hO2, hb⟩
            have HS2 := Hid.in (HS1.out.step hb)
            have HO2 := Hid.in hO2
            have HM2 := Hid.in hM2
            have HWL := Hid.in (blk_lt HS1.out.bA)
            have HB12 := Hid.in hb
            have m20 : 1 ≤ M2 := by rw [hM2]; exact HEL.out.2
            have m21 : M2 ≤ 110 := by rw [hM2]; exact HEL.out.1
            clear hb hM2 hO2 HQ HL1 x0 x1 x2 x3 x4 x5 x6 x7 x8 x9 x10 x11 x12
            go_wp2_with fail
            refine (within_i at_ 0 ((M2 : Int) - 1) w2 (by decide) (by omega) (by omega)).mono ?_
            obtain ⟨kk, hkk, hkM⟩ : ∃ kk : Nat, wI at_ 0 ((M2 : Int) - 1) = (kk : Int) ∧ kk < M2 := ⟨(wI at_ 0 ((M2 : Int) - 1)).toNat, by have := wI_le at_ 0 ((M2 : Int) - 1) (by omega); omega, by have := wI_le at_ 0 ((M2 : Int) - 1) (by omega); omega⟩
            rw [hkk]
            clear hkk
            rintro r w2 ⟨rfl, rfl⟩
            have hmod : how.tmod 4 = 0 ∨ how.tmod 4 = 1 ∨ how.tmod 4 = 2 ∨ how.tmod 4 = 3 := by rw [Int.tmod_eq_emod_of_nonneg hh]; omega
            have ik0 : (0 : Int) ≤ (kk : Int) := by omega
            have ik1 : (kk : Int) < (M2 : Int) := by omega
            rcases hmod with hm | hm | hm | hm
            · obtain ⟨g, cur, rfl, hg, hh2, hcur, hlie⟩ := HO2.out.put kk (by have := HM2.out; omega) tb
              have z0 : w2.cell? ⟨g, kk, none⟩ = some (.int .u8 (((encM (k, c, l, t, o, e, w_, v, d0, d1, d2, d3, h))[kk]'(by have := HM2.out; omega) : Nat) : Int)) := blk_cell hh2 hcur
              have y0 : w2.frozen? ⟨g, kk, none⟩ = false := blk_free hh2
              have HLI := Hid.in hlie
              have HGW : Hid (w.heap.size < g) := Hid.in (by have := HWL.out; have := HO2.out.blk g rfl; omega)
              clear hcur hlie
              go_wp2
              go_meet
              case rel => exact ⟨_, _, _, (encM (k, c, l, t, o, e, w_, v, d0, d1, d2, d3, h)).set kk tb, rfl, by rw [List.length_set]; exact HM2.out, HLI.out, fun y hy => (List.mem_or_eq_of_mem_set hy).elim (HEB.out y) (fun e => e ▸ hto), by rw [List.length_set]; have := HEL.out.1; omega, ⟨(Below.heap_setCell _ _ _ _ (by show w.heap.size ≠ g; have := HGW.out; omega)).trans HS2.out.bA, HS2.out.be.setCell (p := ⟨g, kk, none⟩) (by show w.heap.size ≤ g; have := HGW.out; omega) _⟩⟩
            · have hsl := slice_toB a2 M2 c2 kk (by have := HO2.out.lie.1; have := HM2.out; omega)
              go_wp2
              go_meet
              case rel => exact ⟨_, _, _, (encM (k, c, l, t, o, e, w_, v, d0, d1, d2, d3, h)).take kk, rfl, by rw [List.length_take]; have := HM2.out; omega, HO2.out.lie.take kk, fun y hy => HEB.out y (List.mem_of_mem_take hy), by rw [List.length_take]; have := HEL.out.1; omega, HS2.out⟩
            · have k1 : M2 + 1 ≤ 140737488355328 := by omega
              have HLn : Hid (Lie (w2.alloc (.cells #[.int .u8 (tb : Nat)] 5)) (some ⟨w2.heap.size, 0, none⟩) 1 [tb]) := Hid.in (Lie.lit1 w2 _ _ tb rfl)
              have HBn := Hid.in (below_alloc w2 (.cells #[.int .u8 (tb : Nat)] 5))
              have HOn := Hid.in (HO2.out.step HBn.out)
              have HBw := Hid.in (bstep HB12.out (Nat.le_refl _) HBn.out)
              have hsn : W1.heap.size ≤ (w2.alloc (.cells #[.int .u8 (tb : Nat)] 5)).heap.size := HBw.out.size
              go_wp2_with (at_builtin; refine wpList_concat rfl (.tmp 53) (.tmp 55) rfl W1.heap.size W1 a2 (some ⟨w2.heap.size, 0, none⟩) M2 c2 1 1 (encM (k, c, l, t, o, e, w_, v, d0, d1, d2, d3, h)) [tb] rfl HOn.out rfl rfl HLn.out HBw.out hsn k1 ?_; intro a6 c6 w6 HO6 HB6)
              go_meet
              case rel => exact ⟨_, _, _, encM (k, c, l, t, o, e, w_, v, d0, d1, d2, d3, h) ++ [tb], rfl, by rw [List.length_append]; have := HM2.out; simp; omega, HO6.out.lie, fun y hy => (List.mem_append.1 hy).elim (HEB.out y) (fun e => by rw [List.mem_singleton.1 e]; exact hto), by rw [List.length_append]; have := HEL.out.1; simp; omega, HS1.out.step HB6.out⟩
            · go_wp2
              go_meet
              case rel => exact ⟨_, _, _, encM (k, c, l, t, o, e, w_, v, d0, d1, d2, d3, h), rfl, HM2.out, HO2.out.lie, HEB.out, by have := HEL.out.1; omega, HS2.out⟩
          · have hrf : (rtB (k, c, l, t, o, e, w_, v, d0, d1, d2, d3, h) && decide (0 ≤ how)) = false := by simpa using hrh
            rw [hrf]
            go_wp2
            go_meet
            case rel => exact ⟨_, _, _, L0, rfl, HN0.out, HL1.out, HB0.out, by omega, HS1.out⟩
      case rest =>
        obtain ⟨ao, N1, cap, L, rfl, hN1, hL, hbL, hnL, hs2⟩ := hcut
        rename World => W2
        subst hN1
        have HL2 := Hid.in hL
        have HBL := Hid.in hbL
        have HS2 := Hid.in hs2
        clear hL hbL hs2 HL1 HS1

        rcases hg : gotM L with ⟨cg, xg⟩
        have hsg := fun W hE2 hL2 => sGet_any (some ⟨W2.heap.size, 0, none⟩) L.length (L.length + 80) L W sa hE2 rfl hL2 HBL.out (by omega)
        have hqg := fun W hL2 => qsGet_any ao L.length cap L W rfl hL2 HBL.out (by omega)
        rw [hg] at hsg hqg
        obtain ⟨xk, xc, xl, xt, xo, xe, xw, xv, xd0, xd1, xd2, xd3, xh⟩ := xg
        simp only [mv] at hsg hqg
        have HSG := Hid.in hsg
        have HQG := Hid.in hqg
        clear hsg hqg hg
        go_wp2_with fail
        refine (roomy_any ao cap L 3 W2 HL2.out (by omega)).mono ?_
        rintro r w3 ⟨rfl, hQ, hb⟩
        have HS3 := Hid.in (HS2.out.step hb)
        have HL3 := Hid.in (HL2.out.step hb)
        have HQ3 := Hid.in hQ
        clear hb hQ HS2 HL2
        have hsl := slice_toB (some ⟨W2.heap.size, 0, none⟩) (L.length + 80) (L.length + 80) L.length (by omega)
        go_wp2_with fail
        refine (HSG.out _ (HE.out.below HS3.out.be) (Lie.head HQ3.out (by omega))).mono ?_
        rintro r w4 ⟨l4, rfl, hb, hcc⟩
        have HCC : Hid (cg = 0 ∨ 3 ≤ cg ∧ cg ≤ 5) := Hid.in hcc
        obtain ⟨e4, he4⟩ : ∃ e4, gErr sa l4 cg = e4 := ⟨_, rfl⟩
        rw [he4]
        have HE4 := Hid.in he4
        have hb2 := bstep hb (Nat.le_refl _) (below_alloc w4 (.cells #[.int .i64 xk, .int .i64 xc, .int .i64 xl, .int .i64 xt, .int .i64 xo, .int .i64 xe, .int .i64 xw, .int .u32 xv, .int .u32 xd0, .int .u32 xd1, .int .u32 xd2, .int .u32 xd3, .bool xh] 28))
        have HS5 := Hid.in (HS3.out.step hb2)
        have HL5 := Hid.in (HL3.out.step hb2)
        have HQ5 := Hid.in (blk_step HQ3.out hb2)
        have HX5 : Hid ((w4.alloc (.cells #[.int .i64 xk, .int .i64 xc, .int .i64 xl, .int .i64 xt, .int .i64 xo, .int .i64 xe, .int .i64 xw, .int .u32 xv, .int .u32 xd0, .int .u32 xd1, .int .u32 xd2, .int .u32 xd3, .bool xh] 28)).heap[w4.heap.size]? = some (.cells #[.int .i64 xk, .int .i64 xc, .int .i64 xl, .int .i64 xt, .int .i64 xo, .int .i64 xe, .int .i64 xw, .int .u32 xv, .int .u32 xd0, .int .u32 xd1, .int .u32 xd2, .int .u32 xd3, .bool xh] 28 (0, 0))) := Hid.in (heap_alloc_new _ _)
        clear hb hb2 hcc he4 HS3 HL3 HQ3 hsl HSG
        go_upto_region 16 with fail
        generalize hX : w4.alloc (.cells #[.int .i64 xk, .int .i64 xc, .int .i64 xl, .int .i64 xt, .int .i64 xo, .int .i64 xe, .int .i64 xw, .int .u32 xv, .int .u32 xd0, .int .u32 xd1, .int .u32 xd2, .int .u32 xd3, .bool xh] 28) = W5 at *
        clear hX
        go_wp2_with fail
        refine (HQG.out _ HL5.out).mono ?_
        rintro r w6 ⟨pl, rfl, hb⟩
        have hb2 := bstep hb (Nat.le_refl _) (below_alloc w6 (.cells #[.int .i64 xk, .int .i64 xc, .int .i64 xl, .int .i64 xt, .int .i64 xo, .int .i64 xe, .int .i64 xw, .int .u32 xv, .int .u32 xd0, .int .u32 xd1, .int .u32 xd2, .int .u32 xd3, .bool xh] 28))
        have HS7 := Hid.in (HS5.out.step hb2)
        have HL7 := Hid.in (HL5.out.step hb2)
        have HQ7 := Hid.in (blk_step HQ5.out hb2)
        have HX7 := Hid.in (blk_step HX5.out hb2)
        have HY7 : Hid ((w6.alloc (.cells #[.int .i64 xk, .int .i64 xc, .int .i64 xl, .int .i64 xt, .int .i64 xo, .int .i64 xe, .int .i64 xw, .int .u32 xv, .int .u32 xd0, .int .u32 xd1, .int .u32 xd2, .int .u32 xd3, .bool xh] 28)).heap[w6.heap.size]? = some (.cells #[.int .i64 xk, .int .i64 xc, .int .i64 xl, .int .i64 xt, .int .i64 xo, .int .i64 xe, .int .i64 xw, .int .u32 xv, .int .u32 xd0, .int .u32 xd1, .int .u32 xd2, .int .u32 xd3, .bool xh] 28 (0, 0))) := Hid.in (heap_alloc_new _ _)
        clear hb hb2 HS5 HL5 HQ5 HX5 HQG
        go_upto_region 17 with fail
        generalize hX : w6.alloc (.cells #[.int .i64 xk, .int .i64 xc, .int .i64 xl, .int .i64 xt, .int .i64 xo, .int .i64 xe, .int .i64 xw, .int .u32 xv, .int .u32 xd0, .int .u32 xd1, .int .u32 xd2, .int .u32 xd3, .bool xh] 28) = W7 at *
        clear hX
        obtain ⟨V0, hV0⟩ : ∃ V0, W7.drew = V0 := ⟨_, rfl⟩
        have hd : Below W7.heap.size W7 V0 := by rw [← hV0]; exact (Below.refl _ _).drew
        have HSV := Hid.in (HS7.out.step hd)
        have HLV := Hid.in (HL7.out.step hd)
        have HQV := Hid.in (blk_step HQ7.out hd)
        have HXV := Hid.in (blk_step HX7.out hd)
        have HYV := Hid.in (blk_step HY7.out hd)
        clear hd HS7 HL7 HQ7 HX7 HY7
        have HFA : Hid (∀ W, Below V0.heap.size V0 W → W.cell? ⟨w.heap.size, 0, none⟩ = some (.int .i64 k) ∧ W.cell? ⟨w.heap.size, 1, none⟩ = some (.int .i64 c) ∧ W.cell? ⟨w.heap.size, 2, none⟩ = some (.int .i64 l) ∧ W.cell? ⟨w.heap.size, 3, none⟩ = some (.int .i64 t) ∧ W.cell? ⟨w.heap.size, 4, none⟩ = some (.int .i64 o) ∧ W.cell? ⟨w.heap.size, 5, none⟩ = some (.int .i64 e) ∧ W.cell? ⟨w.heap.size, 6, none⟩ = some (.int .i64 w_) ∧ W.cell? ⟨w.heap.size, 7, none⟩ = some (.int .u32 v) ∧ W.cell? ⟨w.heap.size, 8, none⟩ = some (.int .u32 d0) ∧ W.cell? ⟨w.heap.size, 9, none⟩ = some (.int .u32 d1) ∧ W.cell? ⟨w.heap.size, 10, none⟩ = some (.int .u32 d2) ∧ W.cell? ⟨w.heap.size, 11, none⟩ = some (.int .u32 d3) ∧ W.cell? ⟨w.heap.size, 12, none⟩ = some (.bool h)) := Hid.in (fun W h => ⟨blk_cell (blk_step HSV.out.bA h) rfl, blk_cell (blk_step HSV.out.bA h) rfl, blk_cell (blk_step HSV.out.bA h) rfl, blk_cell (blk_step HSV.out.bA h) rfl, blk_cell (blk_step HSV.out.bA h) rfl, blk_cell (blk_step HSV.out.bA h) rfl, blk_cell (blk_step HSV.out.bA h) rfl, blk_cell (blk_step HSV.out.bA h) rfl, blk_cell (blk_step HSV.out.bA h) rfl, blk_cell (blk_step HSV.out.bA h) rfl, blk_cell (blk_step HSV.out.bA h) rfl, blk_cell (blk_step HSV.out.bA h) rfl, blk_cell (blk_step HSV.out.bA h) rfl⟩)
        have HFX : Hid (∀ W, Below V0.heap.size V0 W → W.cell? ⟨w4.heap.size, 0, none⟩ = some (.int .i64 xk) ∧ W.cell? ⟨w4.heap.size, 1, none⟩ = some (.int .i64 xc) ∧ W.cell? ⟨w4.heap.size, 2, none⟩ = some (.int .i64 xl) ∧ W.cell? ⟨w4.heap.size, 3, none⟩ = some (.int .i64 xt) ∧ W.cell? ⟨w4.heap.size, 4, none⟩ = some (.int .i64 xo) ∧ W.cell? ⟨w4.heap.size, 5, none⟩ = some (.int .i64 xe) ∧ W.cell? ⟨w4.heap.size, 6, none⟩ = some (.int .i64 xw) ∧ W.cell? ⟨w4.heap.size, 7, none⟩ = some (.int .u32 xv) ∧ W.cell? ⟨w4.heap.size, 8, none⟩ = some (.int .u32 xd0) ∧ W.cell? ⟨w4.heap.size, 9, none⟩ = some (.int .u32 xd1) ∧ W.cell? ⟨w4.heap.size, 10, none⟩ = some (.int .u32 xd2) ∧ W.cell? ⟨w4.heap.size, 11, none⟩ = some (.int .u32 xd3) ∧ W.cell? ⟨w4.heap.size, 12, none⟩ = some (.bool xh)) := Hid.in (fun W h => ⟨blk_cell (blk_step HXV.out h) rfl, blk_cell (blk_step HXV.out h) rfl, blk_cell (blk_step HXV.out h) rfl, blk_cell (blk_step HXV.out h) rfl, blk_cell (blk_step HXV.out h) rfl, blk_cell (blk_step HXV.out h) rfl, blk_cell (blk_step HXV.out h) rfl, blk_cell (blk_step HXV.out h) rfl, blk_cell (blk_step HXV.out h) rfl, blk_cell (blk_step HXV.out h) rfl, blk_cell (blk_step HXV.out h) rfl, blk_cell (blk_step HXV.out h) rfl, blk_cell (blk_step HXV.out h) rfl⟩)
        have HFY : Hid (∀ W, Below V0.heap.size V0 W → W.cell? ⟨w6.heap.size, 0, none⟩ = some (.int .i64 xk) ∧ W.cell? ⟨w6.heap.size, 1, none⟩ = some (.int .i64 xc) ∧ W.cell? ⟨w6.heap.size, 2, none⟩ = some (.int .i64 xl) ∧ W.cell? ⟨w6.heap.size, 3, none⟩ = some (.int .i64 xt) ∧ W.cell? ⟨w6.heap.size, 4, none⟩ = some (.int .i64 xo) ∧ W.cell? ⟨w6.heap.size, 5, none⟩ = some (.int .i64 xe) ∧ W.cell? ⟨w6.heap.size, 6, none⟩ = some (.int .i64 xw) ∧ W.cell? ⟨w6.heap.size, 7, none⟩ = some (.int .u32 xv) ∧ W.cell? ⟨w6.heap.size, 8, none⟩ = some (.int .u32 xd0) ∧ W.cell? ⟨w6.heap.size, 9, none⟩ = some (.int .u32 xd1) ∧ W.cell? ⟨w6.heap.size, 10, none⟩ = some (.int .u32 xd2) ∧ W.cell? ⟨w6.heap.size, 11, none⟩ = some (.int .u32 xd3) ∧ W.cell? ⟨w6.heap.size, 12, none⟩ = some (.bool xh)) := Hid.in (fun W h => ⟨blk_cell (blk_step HYV.out h) rfl, blk_cell (blk_step HYV.out h) rfl, blk_cell (blk_step HYV.out h) rfl, blk_cell (blk_step HYV.out h) rfl, blk_cell (blk_step HYV.out h) rfl, blk_cell (blk_step HYV.out h) rfl, blk_cell (blk_step HYV.out h) rfl, blk_cell (blk_step HYV.out h) rfl, blk_cell (blk_step HYV.out h) rfl, blk_cell (blk_step HYV.out h) rfl, blk_cell (blk_step HYV.out h) rfl, blk_cell (blk_step HYV.out h) rfl, blk_cell (blk_step HYV.out h) rfl⟩)
        have HS : Hid (Below V0.heap.size V0 V0) := Hid.in (Below.refl _ _)
        have he := fun w => eq_msgIn' (xk, xc, xl, xt, xo, xe, xw, xv, xd0, xd1, xd2, xd3, xh) (xk, xc, xl, xt, xo, xe, xw, xv, xd0, xd1, xd2, xd3, xh) w
        rw [eqB_self] at he
        simp only [mv] at he
        obtain ⟨p, hp⟩ : ∃ p, poolS k = p := ⟨_, rfl⟩
        have hp1 := sPool_any k
        have hp2 := qsPool_any k
        rw [hp] at hp1 hp2
        clear hp
        have HP1 := Hid.in hp1
        have HP2 := Hid.in hp2
        clear hp1 hp2
        obtain ⟨bb, hbb⟩ : ∃ bb, rtB (k, c, l, t, o, e, w_, v, d0, d1, d2, d3, h) = bb := ⟨_, rfl⟩
        have hr1 := fun W => sRight_any (k, c, l, t, o, e, w_, v, d0, d1, d2, d3, h) W H32.out H64.out
        have hr2 := fun W => qsRight_any (k, c, l, t, o, e, w_, v, d0, d1, d2, d3, h) W H64.out
        rw [hbb] at hr1 hr2
        simp only [mv] at hr1 hr2
        have HR1 := Hid.in hr1
        have HR2 := Hid.in hr2
        clear hr1 hr2 hbb
        have hq1 := fun W => sPut_any (k, c, l, t, o, e, w_, v, d0, d1, d2, d3, h) W H32.out H64.out
        have hq2 := fun W => qsPut_any (k, c, l, t, o, e, w_, v, d0, d1, d2, d3, h) W H32.out H64.out
        change ∀ W, Calls _ _ _ _ (fun r w' => ∃ ao N cap, r = .returned (.slice ao N cap) ∧ N = (putB (k, c, l, t, o, e, w_, v, d0, d1, d2, d3, h)).length ∧ Lie w' ao cap (putB (k, c, l, t, o, e, w_, v, d0, d1, d2, d3, h)) ∧ Below W.heap.size W w') at hq1
        have HPL := Hid.in (putB_len (k, c, l, t, o, e, w_, v, d0, d1, d2, d3, h) H32.out H64.out)
        generalize putB (k, c, l, t, o, e, w_, v, d0, d1, d2, d3, h) = PB at hq1 hq2 HPL
        simp only [mv] at hq1 hq2
        have HQ1 := Hid.in hq1
        have HQ2 := Hid.in hq2
        clear hq1 hq2
        refine wp_region_but (fun W => Below V0.heap.size V0 W) 44 (by kernel_rfl) ?_
        rw [hV0]
        clear hV0
        refine wpBut_take (i := 0) (v := ?_) rfl (by kernel_rfl) (by kernel_rfl) (by exact fun _ _ _ h => h) HS.out (Or.inl ⟨by rfl, ?_⟩) ?_
        case refine_2 => (intro W _; go_simp; try with_reducible rfl)
        simp only [Act.put, List.setIfInBounds_toArray, List.set_cons_zero, List.set_cons_succ]
        refine wpBut_take (i := 1) (v := ?_) rfl (by kernel_rfl) (by kernel_rfl) (by exact fun _ _ _ h => h) HS.out (Or.inl ⟨by rfl, ?_⟩) ?_
        case refine_2 => (intro W hSw; obtain ⟨s0, s1, s2, s3, s4, s5, s6, s7, s8, s9, s10, s11, s12⟩ := HFA.out W hSw; go_simp; try with_reducible rfl)
        simp only [Act.put, List.setIfInBounds_toArray, List.set_cons_zero, List.set_cons_succ]
        refine wpBut_take (i := 3) (v := ?_) rfl (by kernel_rfl) (by kernel_rfl) (by exact fun _ _ _ h => h) HS.out (Or.inl ⟨by rfl, ?_⟩) ?_
        case refine_2 => (intro W _; go_simp; try with_reducible rfl)
        simp only [Act.put, List.setIfInBounds_toArray, List.set_cons_zero, List.set_cons_succ]
        refine wpBut_take (i := 4) (v := ?_) rfl (by kernel_rfl) (by kernel_rfl) (by exact fun _ _ _ h => h) HS.out (Or.inl ⟨by rfl, ?_⟩) ?_
        case refine_2 => (intro W hSw; obtain ⟨s0, s1, s2, s3, s4, s5, s6, s7, s8, s9, s10, s11, s12⟩ := HFA.out W hSw; go_simp; try with_reducible rfl)
        simp only [Act.put, List.setIfInBounds_toArray, List.set_cons_zero, List.set_cons_succ]
        refine wpBut_one (i := 2) rfl (by kernel_rfl) (fun K HK => ?_)
        go_simp
        refine (HP1.out _).mono ?_
        rintro r u2 ⟨rfl, hw⟩
        rw [hw]
        clear hw
        refine HK.out _ _ (fun _ => HS.out) ?_
        clear HK K
        try simp only [Act.put, List.setIfInBounds_toArray, List.set_cons_zero, List.set_cons_succ]
        refine wpBut_one (i := 5) rfl (by kernel_rfl) (fun K HK => ?_)
        go_simp
        refine (HP2.out _).mono ?_
        rintro r u5 ⟨rfl, hw⟩
        rw [hw]
        clear hw
        refine HK.out _ _ (fun _ => HS.out) ?_
        clear HK K
        try simp only [Act.put, List.setIfInBounds_toArray, List.set_cons_zero, List.set_cons_succ]
        refine wpBut_take (i := 6) (v := ?_) rfl (by kernel_rfl) (by kernel_rfl) (by exact fun _ _ _ h => h) HS.out (Or.inl ⟨by rfl, ?_⟩) ?_
        case refine_2 => (intro W _; go_simp; try with_reducible rfl)
        simp only [Act.put, List.setIfInBounds_toArray, List.set_cons_zero, List.set_cons_succ]
        refine wpBut_take (i := 7) (v := ?_) rfl (by kernel_rfl) (by kernel_rfl) (by exact fun _ _ _ h => h) HS.out (Or.inl ⟨by rfl, ?_⟩) ?_
        case refine_2 => (intro W _; go_simp; try with_reducible rfl)
        simp only [Act.put, List.setIfInBounds_toArray, List.set_cons_zero, List.set_cons_succ]
        refine wpBut_take (i := 8) (v := ?_) rfl (by kernel_rfl) (by kernel_rfl) (by exact fun _ _ _ h => h) HS.out (Or.inl ⟨by rfl, ?_⟩) ?_
        case refine_2 => (intro W hSw; obtain ⟨s0, s1, s2, s3, s4, s5, s6, s7, s8, s9, s10, s11, s12⟩ := HFA.out W hSw; go_simp; try with_reducible rfl)
        simp only [Act.put, List.setIfInBounds_toArray, List.set_cons_zero, List.set_cons_succ]
        refine wpBut_take (i := 10) (v := ?_) rfl (by kernel_rfl) (by kernel_rfl) (by exact fun _ _ _ h => h) HS.out (Or.inl ⟨by rfl, ?_⟩) ?_
        case refine_2 => (intro W hSw; obtain ⟨s0, s1, s2, s3, s4, s5, s6, s7, s8, s9, s10, s11, s12⟩ := HFA.out W hSw; go_simp; try with_reducible rfl)
        simp only [Act.put, List.setIfInBounds_toArray, List.set_cons_zero, List.set_cons_succ]
        refine wpBut_one (i := 9) rfl (by kernel_rfl) (fun K HK => ?_)
        go_simp
        refine (HR1.out _).mono ?_
        rintro r v1 ⟨rfl, hb⟩
        have HSn : Hid (Below V0.heap.size V0 v1) := Hid.in (bstep HS.out (Nat.le_refl _) hb)
        clear hb
        refine HK.out _ _ (fun _ => HSn.out) ?_
        clear HK K HS
        have HS := HSn
        clear HSn
        try simp only [Act.put, List.setIfInBounds_toArray, List.set_cons_zero, List.set_cons_succ]
        refine wpBut_one (i := 11) rfl (by kernel_rfl) (fun K HK => ?_)
        go_simp
        refine (HR2.out _).mono ?_
        rintro r v2 ⟨rfl, hb⟩
        have HSn : Hid (Below V0.heap.size V0 v2) := Hid.in (bstep HS.out (Nat.le_refl _) hb)
        clear hb
        refine HK.out _ _ (fun _ => HSn.out) ?_
        clear HK K HS
        have HS := HSn
        clear HSn
        try simp only [Act.put, List.setIfInBounds_toArray, List.set_cons_zero, List.set_cons_succ]
        refine wpBut_take (i := 12) (v := ?_) rfl (by kernel_rfl) (by kernel_rfl) (by exact fun _ _ _ h => h) HS.out (Or.inl ⟨by rfl, ?_⟩) ?_
        case refine_2 => (intro W _; go_simp; try with_reducible rfl)
        simp only [Act.put, List.setIfInBounds_toArray, List.set_cons_zero, List.set_cons_succ]
        refine wpBut_take (i := 13) (v := ?_) rfl (by kernel_rfl) (by kernel_rfl) (by exact fun _ _ _ h => h) HS.out (Or.inl ⟨by rfl, ?_⟩) ?_
        case refine_2 => (intro W _; go_simp; try with_reducible rfl)
        simp only [Act.put, List.setIfInBounds_toArray, List.set_cons_zero, List.set_cons_succ]
        refine wpBut_take (i := 14) (v := ?_) rfl (by kernel_rfl) (by kernel_rfl) (by exact fun _ _ _ h => h) HS.out (Or.inl ⟨by rfl, ?_⟩) ?_
        case refine_2 => (intro W _; go_simp; try with_reducible rfl)
        simp only [Act.put, List.setIfInBounds_toArray, List.set_cons_zero, List.set_cons_succ]
        refine wpBut_take (i := 15) (v := ?_) rfl (by kernel_rfl) (by kernel_rfl) (by exact fun _ _ _ h => h) HS.out (Or.inl ⟨by rfl, ?_⟩) ?_
        case refine_2 => (intro W hSw; obtain ⟨s0, s1, s2, s3, s4, s5, s6, s7, s8, s9, s10, s11, s12⟩ := HFA.out W hSw; go_simp; try with_reducible rfl)
        simp only [Act.put, List.setIfInBounds_toArray, List.set_cons_zero, List.set_cons_succ]
        refine wpBut_take (i := 17) (v := ?_) rfl (by kernel_rfl) (by kernel_rfl) (by exact fun _ _ _ h => h) HS.out (Or.inl ⟨by rfl, ?_⟩) ?_
        case refine_2 => (intro W hSw; obtain ⟨s0, s1, s2, s3, s4, s5, s6, s7, s8, s9, s10, s11, s12⟩ := HFA.out W hSw; go_simp; try with_reducible rfl)
        simp only [Act.put, List.setIfInBounds_toArray, List.set_cons_zero, List.set_cons_succ]
        refine wpBut_one (i := 16) rfl (by kernel_rfl) (fun K HK => ?_)
        go_simp
        refine (HQ1.out _).mono ?_
        rintro r v3 ⟨a1, M1, c1, rfl, hM1, hL1, hb⟩
        have HSn : Hid (Below V0.heap.size V0 v3) := Hid.in (bstep HS.out (Nat.le_refl _) hb)
        have HM1 := Hid.in hM1
        have HL1 := Hid.in hL1
        clear hM1 hL1
        clear hb
        refine HK.out _ _ (fun _ => HSn.out) ?_
        clear HK K HS
        have HS := HSn
        clear HSn
        try simp only [Act.put, List.setIfInBounds_toArray, List.set_cons_zero, List.set_cons_succ]
        refine wpBut_one (i := 18) rfl (by kernel_rfl) (fun K HK => ?_)
        go_simp
        refine (HQ2.out _).mono ?_
        rintro r v4 ⟨a2, M2, c2, rfl, hM2, hO2, hb⟩
        have HSn : Hid (Below V0.heap.size V0 v4) := Hid.in (bstep HS.out (Nat.le_refl _) hb)
        have HM2 := Hid.in hM2
        have HL2 := Hid.in hO2.lie
        have HL1b := Hid.in (HL1.out.step hb)
        clear hM2 hO2 HL1
        clear hb
        refine HK.out _ _ (fun _ => HSn.out) ?_
        clear HK K HS
        have HS := HSn
        clear HSn
        try simp only [Act.put, List.setIfInBounds_toArray, List.set_cons_zero, List.set_cons_succ]
        have hsm := same_any a1 a2 M1 M2 c1 c2 PB PB v4 HM1.out HM2.out HL1b.out HL2.out (by have := HPL.out; omega)
        rw [show decide (PB = PB) = true from decide_eq_true rfl] at hsm
        have HSM := Hid.in hsm
        clear hsm
        refine wpBut_one (i := 19) rfl (by kernel_rfl) (fun K HK => ?_)
        go_simp
        refine (HSM.out).mono ?_
        rintro r v5 ⟨rfl, hb⟩
        have HSn : Hid (Below V0.heap.size V0 v5) := Hid.in (bstep HS.out (Nat.le_refl _) hb)
        clear hb
        refine HK.out _ _ (fun _ => HSn.out) ?_
        clear HK K HS
        have HS := HSn
        clear HSn
        try simp only [Act.put, List.setIfInBounds_toArray, List.set_cons_zero, List.set_cons_succ]
        refine wpBut_take (i := 20) (v := ?_) rfl (by kernel_rfl) (by kernel_rfl) (by exact fun _ _ _ h => h) HS.out (Or.inl ⟨by rfl, ?_⟩) ?_
        case refine_2 => (intro W _; go_simp; try with_reducible rfl)
        simp only [Act.put, List.setIfInBounds_toArray, List.set_cons_zero, List.set_cons_succ]
        refine wpBut_take (i := 21) (v := ?_) rfl (by kernel_rfl) (by kernel_rfl) (by exact fun _ _ _ h => h) HS.out (Or.inl ⟨by rfl, ?_⟩) ?_
        case refine_2 => (intro W _; go_simp; try with_reducible rfl)
        simp only [Act.put, List.setIfInBounds_toArray, List.set_cons_zero, List.set_cons_succ]
        refine wpBut_take (i := 22) (v := ?_) rfl (by kernel_rfl) (by kernel_rfl) (by exact fun _ _ _ h => h) HS.out (Or.inl ⟨by rfl, ?_⟩) ?_
        case refine_2 => (intro W hSw; obtain ⟨s0, s1, s2, s3, s4, s5, s6, s7, s8, s9, s10, s11, s12⟩ := HFX.out W hSw; go_simp; try with_reducible rfl)
        simp only [Act.put, List.setIfInBounds_toArray, List.set_cons_zero, List.set_cons_succ]
        refine wpBut_take (i := 23) (v := ?_) rfl (by kernel_rfl) (by kernel_rfl) (by exact fun _ _ _ h => h) HS.out (Or.inl ⟨by rfl, ?_⟩) ?_
        case refine_2 => (intro W hSw; obtain ⟨s0, s1, s2, s3, s4, s5, s6, s7, s8, s9, s10, s11, s12⟩ := HFY.out W hSw; go_simp; try with_reducible rfl)
        simp only [Act.put, List.setIfInBounds_toArray, List.set_cons_zero, List.set_cons_succ]
        refine wpBut_take (i := 24) (v := ?_) rfl (by kernel_rfl) (by kernel_rfl) (by exact fun _ _ _ h => h) HS.out (Or.inl ⟨by rfl, ?_⟩) ?_
        case refine_2 => (intro W _; go_simp; try with_reducible rfl)
        simp only [Act.put, List.setIfInBounds_toArray, List.set_cons_zero, List.set_cons_succ]
        refine wpBut_take (i := 25) (v := ?_) rfl (by kernel_rfl) (by kernel_rfl) (by exact fun _ _ _ h => h) HS.out (Or.inl ⟨by rfl, ?_⟩) ?_
        case refine_2 => (intro W _; go_simp; try with_reducible rfl)
        simp only [Act.put, List.setIfInBounds_toArray, List.set_cons_zero, List.set_cons_succ]
        refine wpBut_take (i := 26) (v := ?_) rfl (by kernel_rfl) (by kernel_rfl) (by exact fun _ _ _ h => h) HS.out (Or.inl ⟨by rfl, ?_⟩) ?_
        case refine_2 => (intro W _; go_simp; try with_reducible rfl)
        simp only [Act.put, List.setIfInBounds_toArray, List.set_cons_zero, List.set_cons_succ]
        refine wpBut_take (i := 27) (v := ?_) rfl (by kernel_rfl) (by kernel_rfl) (by exact fun _ _ _ h => h) HS.out (Or.inl ⟨by rfl, ?_⟩) ?_
        case refine_2 => (intro W _; go_simp; try with_reducible rfl)
        simp only [Act.put, List.setIfInBounds_toArray, List.set_cons_zero, List.set_cons_succ]
        refine wpBut_take (i := 28) (v := ?_) rfl (by kernel_rfl) (by kernel_rfl) (by exact fun _ _ _ h => h) HS.out (Or.inl ⟨by rfl, ?_⟩) ?_
        case refine_2 => (intro W _; go_simp; try with_reducible rfl)
        simp only [Act.put, List.setIfInBounds_toArray, List.set_cons_zero, List.set_cons_succ]
        obtain rfl := HE4.out
        refine wpBut_one (i := 29) rfl (by kernel_rfl) (fun K HK => ?_)
        go_simp
        refine (kIs_g sa l4 cg v5 (HE.out.below (bstep HSV.out.be (Nat.le_refl _) HS.out)) HCC.out).mono ?_
        rintro r v6 ⟨rfl, hb⟩
        have HSn : Hid (Below V0.heap.size V0 v6) := Hid.in (bstep HS.out (Nat.le_refl _) hb)
        clear hb
        refine HK.out _ _ (fun _ => HSn.out) ?_
        clear HK K HS
        have HS := HSn
        clear HSn
        try simp only [Act.put, List.setIfInBounds_toArray, List.set_cons_zero, List.set_cons_succ]
        refine wpBut_take (i := 30) (v := ?_) rfl (by kernel_rfl) (by kernel_rfl) (by exact fun _ _ _ h => h) HS.out (Or.inl ⟨by rfl, ?_⟩) ?_
        case refine_2 => (intro W _; go_simp; try with_reducible rfl)
        simp only [Act.put, List.setIfInBounds_toArray, List.set_cons_zero, List.set_cons_succ]
        refine wpBut_take (i := 31) (v := ?_) rfl (by kernel_rfl) (by kernel_rfl) (by exact fun _ _ _ h => h) HS.out (Or.inl ⟨by rfl, ?_⟩) ?_
        case refine_2 => (intro W _; go_simp; try with_reducible rfl)
        simp only [Act.put, List.setIfInBounds_toArray, List.set_cons_zero, List.set_cons_succ]
        refine wpBut_take (i := 32) (v := ?_) rfl (by kernel_rfl) (by kernel_rfl) (by exact fun _ _ _ h => h) HS.out (Or.inl ⟨by rfl, ?_⟩) ?_
        case refine_2 => (intro W _; go_simp; try with_reducible rfl)
        simp only [Act.put, List.setIfInBounds_toArray, List.set_cons_zero, List.set_cons_succ]
        refine wpBut_take (i := 33) (v := ?_) rfl (by kernel_rfl) (by kernel_rfl) (by exact fun _ _ _ h => h) HS.out (Or.inl ⟨by rfl, ?_⟩) ?_
        case refine_2 => (intro W _; go_simp; try with_reducible rfl)
        simp only [Act.put, List.setIfInBounds_toArray, List.set_cons_zero, List.set_cons_succ]
        refine wpBut_one (i := 34) rfl (by kernel_rfl) (fun K HK => ?_)
        go_simp
        refine (kOnly_g sa l4 cg v6 (HE.out.below (bstep HSV.out.be (Nat.le_refl _) HS.out)) HCC.out).mono ?_
        rintro r v7 ⟨rfl, hb⟩
        have HSn : Hid (Below V0.heap.size V0 v7) := Hid.in (bstep HS.out (Nat.le_refl _) hb)
        clear hb
        refine HK.out _ _ (fun _ => HSn.out) ?_
        clear HK K HS
        have HS := HSn
        clear HSn
        try simp only [Act.put, List.setIfInBounds_toArray, List.set_cons_zero, List.set_cons_succ]
        refine wpBut_take (i := 35) (v := ?_) rfl (by kernel_rfl) (by kernel_rfl) (by exact fun _ _ _ h => h) HS.out (Or.inl ⟨by rfl, ?_⟩) ?_
        case refine_2 => (intro W _; go_simp; try with_reducible rfl)
        simp only [Act.put, List.setIfInBounds_toArray, List.set_cons_zero, List.set_cons_succ]
        refine wpBut_take (i := 36) (v := ?_) rfl (by kernel_rfl) (by kernel_rfl) (by exact fun _ _ _ h => h) HS.out (Or.inl ⟨by rfl, ?_⟩) ?_
        case refine_2 => (intro W _; go_simp; try with_reducible rfl)
        simp only [Act.put, List.setIfInBounds_toArray, List.set_cons_zero, List.set_cons_succ]
        refine wpBut_take (i := 37) (v := ?_) rfl (by kernel_rfl) (by kernel_rfl) (by exact fun _ _ _ h => h) HS.out (Or.inl ⟨by rfl, ?_⟩) ?_
        case refine_2 => (intro W _; go_simp; try with_reducible rfl)
        simp only [Act.put, List.setIfInBounds_toArray, List.set_cons_zero, List.set_cons_succ]
        refine wpBut_take (i := 38) (v := ?_) rfl (by kernel_rfl) (by kernel_rfl) (by exact fun _ _ _ h => h) HS.out (Or.inl ⟨by rfl, ?_⟩) ?_
        case refine_2 => (intro W _; go_simp; try with_reducible rfl)
        simp only [Act.put, List.setIfInBounds_toArray, List.set_cons_zero, List.set_cons_succ]
        refine wpBut_one (i := 39) rfl (by kernel_rfl) (fun K HK => ?_)
        go_simp
        refine (intact_any ao W2.heap.size cap (L.length + 80) L 3 v7 (blk_step HQV.out HS.out) (Nat.le_refl _) (HLV.out.step HS.out) (by omega)).mono ?_
        rintro r v8 ⟨rfl, hb⟩
        have HSn : Hid (Below V0.heap.size V0 v8) := Hid.in (bstep HS.out (Nat.le_refl _) hb)
        clear hb
        refine HK.out _ _ (fun _ => HSn.out) ?_
        clear HK K HS
        have HS := HSn
        clear HSn
        try simp only [Act.put, List.setIfInBounds_toArray, List.set_cons_zero, List.set_cons_succ]
        refine wpBut_take (i := 40) (v := ?_) rfl (by kernel_rfl) (by kernel_rfl) (by exact fun _ _ _ h => h) HS.out (Or.inl ⟨by rfl, ?_⟩) ?_
        case refine_2 => (intro W _; go_simp; try with_reducible rfl)
        simp only [Act.put, List.setIfInBounds_toArray, List.set_cons_zero, List.set_cons_succ]
        refine wpBut_take (i := 41) (v := ?_) rfl (by kernel_rfl) (by kernel_rfl) (by exact fun _ _ _ h => h) HS.out (Or.inl ⟨by rfl, ?_⟩) ?_
        case refine_2 => (intro W _; go_simp; try with_reducible rfl)
        simp only [Act.put, List.setIfInBounds_toArray, List.set_cons_zero, List.set_cons_succ]
        refine wpBut_one (i := 42) rfl (by kernel_rfl) (fun K HK => ?_)
        go_simp
        refine (msgRuns_any v8 sa (HE.out.below (bstep HSV.out.be (Nat.le_refl _) HS.out))).mono ?_
        rintro r v9 ⟨rfl, hb⟩
        have HSn : Hid (Below V0.heap.size V0 v9) := Hid.in (bstep HS.out (Nat.le_refl _) hb)
        clear hb
        refine HK.out _ _ (fun _ => HSn.out) ?_
        clear HK K HS
        have HS := HSn
        clear HSn
        try simp only [Act.put, List.setIfInBounds_toArray, List.set_cons_zero, List.set_cons_succ]
        refine wpBut_take (i := 43) (v := ?_) rfl (by kernel_rfl) (by kernel_rfl) (by exact fun _ _ _ h => h) HS.out (Or.inl ⟨by rfl, ?_⟩) ?_
        case refine_2 => (intro W _; go_simp; try with_reducible rfl)
        simp only [Act.put, List.setIfInBounds_toArray, List.set_cons_zero, List.set_cons_succ]
        have HN : Hid (Below w.heap.size w v9) := Hid.in (bstep HSV.out.be (Nat.le_refl _) HS.out)
        refine wpBut_one (i := 44) rfl (by kernel_rfl) (fun K HK => ?_)
        go_simp
        refine HK.out _ _ (fun h => absurd rfl h) ?_
        clear HK K HS
        refine wpBut_done (by kernel_rfl) ?_ _
        go_wp2
        go_ret
        exact ⟨rfl, HN.out⟩

theorem msgTells_any (w : World) (sa : Nat → Addr) (hE : Env10 w sa) (m : M13) (h32 : M32 m) (h64 : M64 m) (ab : Option Addr) (cb : Nat) (bs : List Nat) (hB : Lie w ab cb bs) (hby : ∀ x ∈ bs, x < 256) (hln : bs.length ≤ 140737488355328) (at_ tz : Int) (ht : 0 ≤ tz ∧ tz ≤ 255) (how : Int) :
    Calls Tryd.prog 4 #[.agg (mv m), .slice ab bs.length cb, .int .i64 at_, .int .u8 tz, .int .i64 how] w fun r w' => r = .returned (.bool true) ∧ Below w.heap.size w w' := by
  obtain ⟨k, c, l, t, o, e, w_, v, d0, d1, d2, d3, h⟩ := m
  obtain ⟨tb, rfl⟩ : ∃ tb : Nat, tz = (tb : Int) := ⟨tz.toNat, by omega⟩
  exact msgTells_mid w sa hE k c l t o e w_ v d0 d1 d2 d3 h h32 h64 ab cb bs hB hby hln at_ tb (by omega) how


end Go.Proofs.YtgepfbaojogccaaDoor

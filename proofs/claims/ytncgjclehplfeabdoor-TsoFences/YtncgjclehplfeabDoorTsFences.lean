/- DERIVED of the program: TsoFences returns true. Own work. -/
import Derived.Test.YtncgjclehplfeabDoorTsK
import Derived.Test.YtncgjclehplfeabDoorGenW
import Derived.Test.YtncgjclehplfeabDoorGenV
import Derived.Deep.CutBlock
namespace Go.Proofs.YtncgjclehplfeabDoor
open Go.RowKit Go.Extern.Stop Go.Stop Go.Extern

/-- The values, as a function. -/
theorem U32sW.fn {w : World} {ao : Option Addr} {n : Nat} (h : U32sW w ao n) : ∃ V : Nat → Int, ∀ k, k < n → ∃ b o, ao = some ⟨b, o, none⟩ ∧ w.cell? ⟨b, o + k, none⟩ = some (.int .u32 (V k)) := by
  have h' : ∀ k, ∃ z : Int, k < n → ∃ b o, ao = some ⟨b, o, none⟩ ∧ w.cell? ⟨b, o + k, none⟩ = some (.int .u32 z) := fun k => by
    by_cases hk : k < n
    · obtain ⟨b, o, z, e, hc⟩ := h.at k hk
      exact ⟨z, fun _ => ⟨b, o, e, hc⟩⟩
    · exact ⟨0, fun hh => absurd hh hk⟩
  exact ⟨fun k => Classical.choose (h' k), fun k hk => Classical.choose_spec (h' k) hk⟩
/-- What waits: from store i on, k of them. -/
def bufF (V : Nat → Int) (i k : Nat) : List (Int × Int) := (List.range' i k).map (fun j => (((j % 4 : Nat) : Int), V j))
theorem bufF_len (V : Nat → Int) (i k : Nat) : (bufF V i k).length = k := by simp [bufF]
theorem bufF_snoc (V : Nat → Int) (k : Nat) : bufF V 0 k ++ [(((k % 4 : Nat) : Int), V k)] = bufF V 0 (k + 1) := by
  simp [bufF, List.range'_concat]
theorem bufF_cons (V : Nat → Int) (i k : Nat) : bufF V i (k + 1) = (((i % 4 : Nat) : Int), V i) :: bufF V (i + 1) k := by
  simp [bufF, List.range'_succ]
/-- Memory behind i commits. -/
def memF (V : Nat → Int) : Nat → List Int
  | 0 => [0, 0, 0, 0]
  | i + 1 => (memF V i).set (i % 4) (V i)
theorem memF_len (V : Nat → Int) : ∀ i, (memF V i).length = 4
  | 0 => rfl
  | i + 1 => by simp only [memF, List.length_set]; exact memF_len V i
abbrev fs (V : Nat → Int) (i k : Nat) : TS := ([bufF V i k, [], []], memF V i)
abbrev fs0 (V : Nat → Int) (k : Nat) : TS := ([bufF V 0 k, [], []], memF V 0)
theorem fen_store (V : Nat → Int) (k : Nat) : refP (fs0 V k).1 (fs0 V k).2 ⟨2, 0, ((k % 4 : Nat) : Int), V k, 0, false⟩ = 0 ∧ stepS (fs0 V k) ⟨2, 0, ((k % 4 : Nat) : Int), V k, 0, false⟩ = fs0 V (k + 1) := by
  have l1 : 0 < (fs0 V k).1.length := by simp
  have l2 : k % 4 < (fs0 V k).2.length := by simp only [memF_len]; omega
  refine ⟨ref_store (fs0 V k) 0 (k % 4) (V k) 0 false l1 l2, (step_store (s := fs0 V k) (c := 0) l1 l2).trans ?_⟩
  simp only [List.getD_cons_zero, bufF_snoc, List.set_cons_zero]
theorem fen_fence (V : Nat → Int) (i k : Nat) : refP (fs V i (k + 1)).1 (fs V i (k + 1)).2 ⟨5, 0, 0, 0, 0, false⟩ = 9 := by
  have l1 : 0 < (fs V i (k + 1)).1.length := by simp
  refine (ref_fence (fs V i (k + 1)) 0 0 0 0 false l1).trans (if_pos ?_)
  simp only [List.getD_cons_zero, bufF_cons]
  exact List.cons_ne_nil _ _
theorem fen_commit (V : Nat → Int) (i k : Nat) : refP (fs V i (k + 1)).1 (fs V i (k + 1)).2 ⟨3, 0, ((i % 4 : Nat) : Int), V i, 0, false⟩ = 0 ∧ stepS (fs V i (k + 1)) ⟨3, 0, ((i % 4 : Nat) : Int), V i, 0, false⟩ = fs V (i + 1) k := by
  have l1 : 0 < (fs V i (k + 1)).1.length := by simp
  have l2 : i % 4 < (fs V i (k + 1)).2.length := by simp only [memF_len]; omega
  have hL : (fs V i (k + 1)).1.getD 0 [] = (((i % 4 : Nat) : Int), V i) :: bufF V (i + 1) k := by simp only [List.getD_cons_zero, bufF_cons]
  exact ⟨(ref_commit (fs V i (k + 1)) 0 (i % 4) (V i) 0 false l1 l2 _ _ hL).trans (if_pos rfl), (step_commit (s := fs V i (k + 1)) (c := 0) l1 l2 _ hL).trans rfl⟩
theorem fen_end (V : Nat → Int) (n : Nat) : refP (fs V n 0).1 (fs V n 0).2 ⟨5, 0, 0, 0, 0, false⟩ = 0 :=
  (ref_fence (fs V n 0) 0 0 0 0 false (by simp)).trans (if_neg (fun h => h rfl))
theorem fen_read (V : Nat → Int) (n k a : Nat) (hk : k < 3) : rdL ((fs V n 0).1.getD k []) (fs V n 0).2 a = (memF V n).getD a 0 := by
  match k, hk with
  | 0, _ => exact rdL_nil _ _
  | 1, _ => exact rdL_nil _ _
  | 2, _ => exact rdL_nil _ _
theorem u4_get (M : List Int) (i : Nat) (hi : i < M.length) : (((M.map (fun z => Value.int .u32 z)).toArray))[i]? = some (.int .u32 (M.getD i 0)) := by
  simp [List.getD, hi]
theorem u4_set (M : List Int) (i : Nat) (v : Int) : ((M.map (fun z => Value.int .u32 z)).toArray).setIfInBounds i (.int .u32 v) = ((M.set i v).map (fun z => Value.int .u32 z)).toArray := by
  simp [List.map_set]
abbrev uarr (M : List Int) : Array Value := (M.map (fun z => Value.int .u32 z)).toArray

set_option maxHeartbeats 6400000 in
set_option maxRecDepth 20000 in
theorem tsoFences_any (w : World) (sa : Nat → Addr) (hE : Env10 w sa) (ao : Option Addr) (n0 capw : Nat) (hcap : n0 ≤ capw) (hI : U32sW w ao n0) (other : Int) :
    Calls Tryd.prog 3 #[.slice ao n0 capw, .int .i64 other] w fun r w' => r = .returned (.bool true) ∧ Below w.heap.size w w' := by
  have HE := Hid.in hE
  obtain ⟨V, hV⟩ := hI.fn
  have HV := Hid.in hV
  clear hE hV hI
  have hw0 := wI_le other 0 2 (by omega)
  obtain ⟨kk, hkk⟩ : ∃ m : Nat, wI other 0 2 = (m : Int) := ⟨(wI other 0 2).toNat, by omega⟩
  have hk3 : kk < 3 := by omega
  have HKK := Hid.in hkk
  clear hw0 hkk
  go_enter Tryd.func3, Tryd.ntmps3
  go_wp2_with fail
  refine (at_new w w (Below.refl _ _) 3 4 (by decide) (by decide) (by decide) (by decide)).mono ?_
  rintro r w1 ⟨q, S, rfl, hA, _, _⟩
  have HA1 : Hid (At w w1 q S 0 (fs0 V 0)) := Hid.in hA
  clear hA
  have hsl : ∀ w, 20 ≤ capw → (Instr.sliceAt 22 (.slice ao n0 capw) none (some (.int .i64 20)) none).run Tryd.prog w = .ok (.slice ao 20 capw) w := fun w h => slice_toQ 22 29 _ _ _ Tryd.underlying22 Tryd.infoU32 ao n0 capw 20 h w
  go_upto_if 27 with fail
  go_cut [0] (fun x wd => ∃ n cap, x = .slice ao n cap ∧ n ≤ 20 ∧ n ≤ n0 ∧ wd = w1)
  case first =>
    by_cases h : n0 ≤ 20
    · have i1 : ¬ (20 : Int) < (n0 : Int) := by omega
      clear hsl
      go_wp2
      go_meet
      case rel => exact ⟨n0, capw, rfl, h, Nat.le_refl _, rfl⟩
    · have i1 : (20 : Int) < (n0 : Int) := by omega
      have hs2 := fun w => hsl w (by omega)
      clear hsl
      go_wp2
      go_meet
      case rel => exact ⟨20, capw, rfl, Nat.le_refl _, by omega, rfl⟩
  case rest =>
    obtain ⟨n, cap, rfl, hn20, hnn, hwd⟩ := hcut
    subst hwd
    clear hsl
    have HV2 : Hid (∀ k, k < n → ∃ b o, ao = some ⟨b, o, none⟩ ∧ w.cell? ⟨b, o + k, none⟩ = some (.int .u32 (V k))) := Hid.in (fun k hk => HV.out k (by omega))
    clear HV
    go_wp2
    go_loopw [7] (fun x wr => ∃ (i : Nat) (S : List Nat), i ≤ n ∧ x = .int .i64 (i : Int) ∧ At w wr q S i (fs0 V i)) (fun x _ => n - (intOf x).toNat)
    case atStart => exact ⟨0, S, Nat.zero_le _, rfl, HA1.out⟩
    case round =>
      obtain ⟨i, Si, hi, rfl, hA⟩ := hrel
      clear HA1
      have HAi := Hid.in hA
      clear hA
      by_cases hlt : i < n
      · obtain ⟨b, o, rfl, x0⟩ := HV2.out i hlt
        have y0 := (HAi.out.b.cell (p := ⟨b, o + i, none⟩) (lt_cell x0)).trans x0
        have i1 : (i : Int) < (n : Int) := by omega
        have hN : i < 100000 := by omega
        have hmod : (i : Int).tmod 4 = ((i % 4 : Nat) : Int) := (Int.ofNat_tmod i 4).symm
        have Y := Hid.in (fen_store V i)
        clear x0
        go_wp2_with fail
        refine (ev_c _ _ _ _ _).mono ?_
        rintro r wa1 ⟨rfl, hb⟩
        have HAa1 := Hid.in (HAi.out.step hb)
        clear hb HAi
        go_wp2_with fail
        refine (at_yes w _ sa HE.out q _ Si _ _ HAa1.out hN 2 0 ((i % 4 : Nat) : Int) (V i) 0 false Y.out.1 Y.out.2).mono ?_
        rintro r wa2 ⟨rfl, Sa2, hA, _⟩
        have HAa2 := Hid.in hA
        clear hA HAa1
        clear y0
        go_wp2
        go_roundw
        case rel => exact ⟨i + 1, Sa2, by omega, by go_num, HAa2.out⟩
        case measure => simp [intOf]; omega
      · obtain rfl : i = n := by omega
        have HAb : Hid (At w _ q Si (i + 3 * 0) (fs V 0 i)) := Hid.in HAi.out
        clear HAi
        go_wp2
        go_loopw [8] (fun x wr => ∃ (j : Nat) (S : List Nat), j ≤ i ∧ x = .int .i64 (j : Int) ∧ At w wr q S (i + 3 * j) (fs V j (i - j))) (fun x _ => i - (intOf x).toNat)
        case atStart => exact ⟨0, Si, Nat.zero_le _, rfl, HAb.out⟩
        case round =>
          obtain ⟨j, Sj, hj, rfl, hA⟩ := hrel
          clear HAb
          by_cases hlt : j < i
          · obtain ⟨k, hk⟩ : ∃ k, i - j = k + 1 := ⟨i - j - 1, by omega⟩
            rw [hk] at hA
            have HAj := Hid.in hA
            clear hA
            obtain ⟨b, o, rfl, x0⟩ := HV2.out j hlt
            have y0 := (HAj.out.b.cell (p := ⟨b, o + j, none⟩) (lt_cell x0)).trans x0
            have HY0 := Hid.in y0
            have i1 : (j : Int) < (i : Int) := by omega
            have hN : i + 3 * j < 100000 := by omega
            have hN1 : i + 3 * j + 1 < 100000 := by omega
            have hmod : (j : Int).tmod 4 = ((j % 4 : Nat) : Int) := (Int.ofNat_tmod j 4).symm
            have hsub : IntKind.i64.wrap ((i : Int) - (j : Int)) = ((k + 1 : Nat) : Int) := by rw [show (i : Int) - (j : Int) = ((k + 1 : Nat) : Int) by omega]; exact wrapI (by omega) (by omega)
            have hsub2 : (i : Int) - (j : Int) = ((k + 1 : Nat) : Int) := by omega
            have Y := Hid.in (fen_fence V j k)
            have Z := Hid.in (fen_commit V j k)
            have HK := Hid.in hk
            clear x0 y0
            go_wp2_with fail
            refine (ev_c _ _ _ _ _).mono ?_
            rintro r wb1 ⟨rfl, hb⟩
            have HAb1 := Hid.in (HAj.out.step hb)
            clear hb HAj
            go_wp2_with fail
            refine (at_no w _ sa HE.out q _ Sj _ HAb1.out hN 5 0 0 0 0 false 9 Y.out (by decide)).mono ?_
            rintro r wb2 ⟨rfl, Sb2, hA, _⟩
            have HAb2 := Hid.in hA
            clear hA HAb1
            have HWT := Hid.in (twait_c _ q _ Sb2 _ _ HAb2.out.p 0 (by simp) (k + 1) (by simp only [List.getD_cons_zero, bufF_len]))
            go_wp2_with fail
            refine HWT.out.mono ?_
            rintro r wc ⟨rfl, rfl⟩
            obtain ⟨b, o, hao, x0⟩ := HV2.out j hlt
            cases hao
            have y0 := (HAb2.out.b.cell (p := ⟨b, o + j, none⟩) (lt_cell x0)).trans x0
            have hN2 : i + 3 * j + 1 + 1 < 100000 := by omega
            clear x0 HWT
            go_wp2_with fail
            refine (ev_c _ _ _ _ _).mono ?_
            rintro r wb3 ⟨rfl, hb⟩
            have HAb3 := Hid.in (HAb2.out.step hb)
            clear hb HAb2
            go_wp2_with fail
            refine (at_yes w _ sa HE.out q _ Sb2 _ _ HAb3.out hN1 3 0 ((j % 4 : Nat) : Int) (V j) 0 false Z.out.1 Z.out.2).mono ?_
            rintro r wb4 ⟨rfl, Sb4, hA, _⟩
            have HAb4 := Hid.in hA
            clear hA HAb3
            have HAN : Hid (At w wb4 q Sb4 (i + 3 * (j + 1)) (fs V (j + 1) (i - (j + 1)))) := Hid.in ⟨by
                have h := HAb4.out.p.mono (N' := i + 3 * (j + 1)) (by omega)
                rw [show i - (j + 1) = k by have := HK.out; omega]
                exact h, HAb4.out.b, HAb4.out.s⟩
            clear y0 HAb4
            go_wp2
            go_roundw
            case rel => exact ⟨j + 1, Sb4, by omega, by go_num, HAN.out⟩
            case measure => simp [intOf]; omega
          · obtain rfl : j = i := by omega
            rw [Nat.sub_self] at hA
            have HAe := Hid.in hA
            clear hA
            rename World => wo
            go_upto_region 19 with fail
            generalize hwx : wo.alloc _ = wx
            have HAx : Hid (At w wx q Sj (j + 3 * j) (fs V j 0)) := Hid.in (by rw [← hwx]; exact HAe.out.step (below_alloc _ _))
            have HGx : Hid (wx.heap[wo.heap.size]? = some (.cells (uarr (memF V 0)) 34 (0, 0))) := Hid.in (by rw [← hwx]; exact heap_alloc_new _ _)
            have HFAR : Hid (wo.heap.size ∉ Sj ∧ w.heap.size ≤ wo.heap.size) := Hid.in ⟨HAe.out.p.far (Nat.le_refl _), HAe.out.b.size⟩
            generalize wo.heap.size = g at HGx HFAR ⊢
            clear hwx HAe
            go_wp2
            go_loopw [10] (fun x wr => ∃ (a : Nat), a ≤ j ∧ x = .int .i64 (a : Int) ∧ At w wr q Sj (j + 3 * j) (fs V j 0) ∧ wr.heap[g]? = some (.cells (uarr (memF V a)) 34 (0, 0))) (fun x _ => j - (intOf x).toNat)
            case atStart => exact ⟨0, Nat.zero_le _, rfl, HAx.out, HGx.out⟩
            case round =>
              obtain ⟨a, ha, rfl, hA, hG⟩ := hrel
              clear HAx HGx
              have HAc := Hid.in hA
              have HGc := Hid.in hG
              clear hA hG
              by_cases hlt : a < j
              · obtain ⟨b, o, rfl, x0⟩ := HV2.out a hlt
                have y0 := (HAc.out.b.cell (p := ⟨b, o + a, none⟩) (lt_cell x0)).trans x0
                have i1 : (a : Int) < (j : Int) := by omega
                have hmod : (a : Int).tmod 4 = ((a % 4 : Nat) : Int) := (Int.ofNat_tmod a 4).symm
                have i4 : ((a % 4 : Nat) : Int) < 4 := by omega
                have i40 : (0 : Int) ≤ ((a % 4 : Nat) : Int) := by omega
                obtain ⟨r, hr⟩ : ∃ r : Nat, a % 4 = r := ⟨_, rfl⟩
                rw [hr] at hmod i4 i40
                have HR := Hid.in hr
                have g0 := blk_cell HGc.out (u4_get (memF V a) r (by rw [memF_len]; omega))
                rename World => wo
                have gf : wo.frozen? ⟨g, r, none⟩ = false := blk_free HGc.out
                clear x0 hr
                have HA3 : Hid (At w (wo.setCell ⟨g, r, none⟩ (.int .u32 (V a))) q Sj (j + 3 * j) (fs V j 0)) := Hid.in (HAc.out.fr (T := [g]) ((Fr.refl _ _).setCell _ List.mem_cons_self) (fun k hk hm => HFAR.out.1 (by rw [← List.mem_singleton.1 hm]; exact hk)) (fun k hk => by rw [List.mem_singleton.1 hk]; exact HFAR.out.2))
                have HG3 : Hid ((wo.setCell ⟨g, r, none⟩ (.int .u32 (V a))).heap[g]? = some (.cells (uarr (memF V (a + 1))) 34 (0, 0))) := Hid.in (by
                  have h := blk_set (i := r) (.int .u32 (V a)) HGc.out
                  rw [u4_set, ← HR.out] at h
                  rw [← HR.out]
                  exact h)
                go_wp2
                go_roundw
                case rel => exact ⟨a + 1, by omega, by go_num, HA3.out, HG3.out⟩
                case measure => simp [intOf]; omega
              · obtain rfl : a = j := by omega
                go_wp2_with fail
                refine (within_i other 0 2 _ (by omega) (by omega) (by omega)).mono ?_
                rw [HKK.out]
                rintro r w' ⟨rfl, rfl⟩
                go_wp2
                go_loopw [12] (fun x wr => ∃ (b : Nat), b ≤ 4 ∧ x = .int .i64 (b : Int) ∧ At w wr q Sj (a + 3 * a) (fs V a 0) ∧ wr.heap[g]? = some (.cells (uarr (memF V a)) 34 (0, 0))) (fun x _ => 4 - (intOf x).toNat)
                case atStart => exact ⟨0, Nat.zero_le _, rfl, HAc.out, HGc.out⟩
                case round =>
                  obtain ⟨b, hb4, rfl, hA, hG⟩ := hrel
                  clear HAc HGc
                  have HAd := Hid.in hA
                  have HGd := Hid.in hG
                  clear hA hG
                  rename World => wo
                  by_cases hlt : b < 4
                  · obtain ⟨z, hz⟩ : ∃ z, (memF V a).getD b 0 = z := ⟨_, rfl⟩
                    have g0 := blk_cell HGd.out (u4_get (memF V a) b (by rw [memF_len]; omega))
                    rw [hz] at g0
                    have i1 : (b : Int) < 4 := by omega
                    have HRD := Hid.in (tread_c wo q _ Sj _ _ HAd.out.p (by omega) kk b (by simp only [List.length_cons, List.length_nil]; omega) (by rw [memF_len]; omega) z (by rw [fen_read V a kk b hk3, hz]))
                    clear hz
                    go_wp2_with fail
                    refine HRD.out.mono ?_
                    rintro r w5 ⟨rfl, hb⟩
                    have g5 : w5.cell? ⟨g, b, none⟩ = _ := (hb.cell (p := ⟨g, b, none⟩) (lt_cell g0)).trans g0
                    have HA5 := Hid.in (HAd.out.step hb)
                    have HG5 : Hid (w5.heap[g]? = some (.cells (uarr (memF V a)) 34 (0, 0))) := Hid.in ((hb.block g (lt_cell g0)).trans HGd.out)
                    clear hb g0 HAd HGd HRD
                    go_wp2
                    go_roundw
                    case rel => exact ⟨b + 1, by omega, by go_num, HA5.out, HG5.out⟩
                    case measure => simp [intOf]; omega
                  · obtain rfl : b = 4 := by omega
                    have hN9 : a + 3 * a < 100000 := by omega
                    have Y9 := Hid.in (fen_end V a)
                    go_wp2_with fail
                    refine (ev_c _ _ _ _ _).mono ?_
                    rintro r we1 ⟨rfl, hb⟩
                    have HAe1 := Hid.in (HAd.out.step hb)
                    clear hb HAd
                    go_wp2_with fail
                    refine (at_yes w _ sa HE.out q _ Sj _ _ HAe1.out hN9 5 0 0 0 0 false Y9.out (step_still (.inr rfl))).mono ?_
                    rintro r we2 ⟨rfl, Se2, hA, _⟩
                    have HAe2 := Hid.in hA
                    clear hA HAe1
                    go_wp2_with fail
                    refine (tsoRuns_any _ sa (HE.out.below HAe2.out.b)).mono ?_
                    rintro r wz ⟨rfl, hb⟩
                    have HBZ := Hid.in (bstep HAe2.out.b (Nat.le_refl _) hb)
                    clear hb
                    go_wp2
                    go_ret
                    exact ⟨rfl, HBZ.out⟩
end Go.Proofs.YtncgjclehplfeabDoor

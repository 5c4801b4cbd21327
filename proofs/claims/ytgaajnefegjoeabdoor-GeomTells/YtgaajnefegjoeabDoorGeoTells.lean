/- DERIVED of the program: GeomTells returns true, for every configuration and all numbers. Own work. -/
import Derived.Test.YtgaajnefegjoeabDoorGeoD
import Derived.Deep.DeepCutAuto
namespace Go.Proofs.YtgaajnefegjoeabDoor
open Go.RowKit Go.Extern.Stop Go.Stop Go.Extern

theorem fno_all : ∀ (bs : List Bool) (i : Nat), fno bs i = -1 ∨ 0 ≤ fno bs i
  | [], _ => .inl rfl
  | b :: r, i => by
    unfold fno
    split
    · exact fno_all r (i + 1)
    · exact .inr (by omega)
theorem fno_neg : ∀ (bs : List Bool) (i : Nat), fno bs i = -1 → ∀ b ∈ bs, b = true
  | [], _, _ => fun b h => absurd h (List.not_mem_nil)
  | b :: r, i, h => by
    unfold fno at h
    split at h
    · rename_i hb
      intro x hx
      rcases List.mem_cons.1 hx with rfl | hx
      · exact hb
      · exact fno_neg r (i + 1) h x hx
    · omega
theorem lines_of (c0 c1 c2 c3 c4 c5 c6 c7 c8 : Int) (h : fno (bs9 c0 c1 c2 c3 c4 c5 c6 c7 c8) 0 = -1) : 1 ≤ c1 ∧ c1 ≤ 32 :=
  wB_of (fno_neg _ _ h _ (by simp [bs9]))

set_option maxHeartbeats 8000000 in
set_option maxRecDepth 100000 in
theorem geomTells_any (w : World) (sa : Nat → Addr) (hE : Env10 w sa) (c0 c1 c2 c3 c4 c5 c6 c7 c8 addr line word sets : Int) :
    Calls Tryd.prog 4 #[cfg c0 c1 c2 c3 c4 c5 c6 c7 c8, .int .i64 addr, .int .i64 line, .int .i64 word, .int .i64 sets] w fun r w' => r = .returned (.bool true) ∧ Below w.heap.size w w' := by
  have HE := Hid.in hE
  have HC := Hid.in (fun W (h : Below w.heap.size w W) => check_any c0 c1 c2 c3 c4 c5 c6 c7 c8 W sa (hE.below h))
  have HR := Hid.in (rConfig_any c0 c1 c2 c3 c4 c5 c6 c7 c8)
  have HTY := Hid.in (fun h W (hb : Below w.heap.size w W) => total_yes c0 c1 c2 c3 c4 c5 c6 c7 c8 W sa (hE.below hb) h (lines_of _ _ _ _ _ _ _ _ _ h))
  have HTN := Hid.in (fun h W (hb : Below w.heap.size w W) => total_no c0 c1 c2 c3 c4 c5 c6 c7 c8 W sa (hE.below hb) h)
  have HL := Hid.in (lines_of c0 c1 c2 c3 c4 c5 c6 c7 c8)
  have hor := fno_all (bs9 c0 c1 c2 c3 c4 c5 c6 c7 c8) 0
  clear hE
  generalize fno (bs9 c0 c1 c2 c3 c4 c5 c6 c7 c8) 0 = z at HC HR HTY HTN HL hor
  go_enter Tryd.func4, Tryd.ntmps4
  go_wp2_with fail
  refine (HR.out _).mono ?_
  rintro r w1 ⟨rfl, hb1⟩
  have HB1 : Hid (Below w.heap.size w w1) := Hid.in (((Below.refl _ _).alloc (Nat.le_refl _) _).trans (hb1.mono (by simp)))
  have hc1 : ∀ o, w1.cell? ⟨w.heap.size, o, none⟩ = (w.alloc (.cells #[.int .i64 c0, .int .i64 c1, .int .i64 c2, .int .i64 c3, .int .i64 c4, .int .i64 c5, .int .i64 c6, .int .i64 c7, .int .i64 c8] 26)).cell? ⟨w.heap.size, o, none⟩ := fun o => hb1.cell (p := ⟨w.heap.size, o, none⟩) (by simp)
  clear hb1
  go_wp2_with fail
  refine (HC.out _ HB1.out).mono ?_
  rintro r w2 ⟨rfl, hb2⟩
  have HB2 := Hid.in (bstep HB1.out (Nat.le_refl _) hb2)
  have hlt1 : w.heap.size < w1.heap.size := lt_cell (q := ⟨w.heap.size, 0, none⟩) (o := .int .i64 c0) (by rw [hc1]; simp)
  have hc2 : ∀ o, w2.cell? ⟨w.heap.size, o, none⟩ = (w.alloc (.cells #[.int .i64 c0, .int .i64 c1, .int .i64 c2, .int .i64 c3, .int .i64 c4, .int .i64 c5, .int .i64 c6, .int .i64 c7, .int .i64 c8] 26)).cell? ⟨w.heap.size, o, none⟩ := fun o => (hb2.cell (p := ⟨w.heap.size, o, none⟩) hlt1).trans (hc1 o)
  clear hc1 hb2 hlt1
  have HC2 := Hid.in hc2
  go_upto_if 24 with fail
  go_cut [12, 13] (fun _ x wc => ∃ t : Int, x = .int .i64 t ∧ (z = -1 → t = c1 * 4) ∧ (0 ≤ z → t = 0) ∧ Below w.heap.size w wc ∧ ∀ o, wc.cell? ⟨w.heap.size, o, none⟩ = (w.alloc (.cells #[.int .i64 c0, .int .i64 c1, .int .i64 c2, .int .i64 c3, .int .i64 c4, .int .i64 c5, .int .i64 c6, .int .i64 c7, .int .i64 c8] 26)).cell? ⟨w.heap.size, o, none⟩)
  case first =>
    rcases hor with hz | hz
    · have hl := HL.out hz
      obtain ⟨hl1, hl2⟩ := hl
      subst hz
      rw [show chkV (-1) (sa 1) = .nilIface from rfl]
      go_wp2_with fail
      go_meet
      case rel => exact ⟨_, rfl, fun _ => rfl, fun h => by omega, HB2.out, HC2.out⟩
    · have HV : Hid (chkV z (sa 1) = flt opC z (snt (sa 1))) := Hid.in (by rw [chkV, if_neg (by omega)])
      rw [HV.out]
      clear HV hc2
      go_wp2_with fail
      refine (kIs_flt opC z [] 1 (by omega) (by omega) _ sa (HE.out.below HB2.out)).mono ?_
      rintro r w3 ⟨rfl, hb3⟩
      have HB3 := Hid.in (bstep HB2.out (Nat.le_refl _) hb3)
      have hlt2 : w.heap.size < w2.heap.size := lt_cell (q := ⟨w.heap.size, 0, none⟩) (o := .int .i64 c0) (by rw [HC2.out]; simp)
      have HC3 := Hid.in (fun o => (hb3.cell (p := ⟨w.heap.size, o, none⟩) hlt2).trans (HC2.out o))
      clear hb3 hlt2
      go_wp2_with fail
      refine (kOnly_chn [(opC, z)] 1 (by omega) (by omega) _ sa (HE.out.below HB3.out)).mono ?_
      rintro r w4 ⟨rfl, hb4⟩
      have HB4 := Hid.in (bstep HB3.out (Nat.le_refl _) hb4)
      have hlt3 : w.heap.size < w3.heap.size := lt_cell (q := ⟨w.heap.size, 0, none⟩) (o := .int .i64 c0) (by rw [HC3.out]; simp)
      have HC4 := Hid.in (fun o => (hb4.cell (p := ⟨w.heap.size, o, none⟩) hlt3).trans (HC3.out o))
      clear hb4 hlt3
      go_wp2_with fail
      go_meet
      case rel => exact ⟨_, rfl, fun h => by omega, fun _ => rfl, HB4.out, HC4.out⟩
  case rest =>
    obtain ⟨t, rfl, ht1, ht2, hb, hc⟩ := hcut
    have HT := Hid.in (And.intro ht1 ht2)
    have HB := Hid.in hb
    have HC := Hid.in hc
    clear ht1 ht2 hb HB2 HC2 hc2 HB1 w1 w2 hc
    go_upto_region 11 with fail
    go_cut [44] (fun x wd => x = .bool (wB addr 0 127) ∧ wd = wc)
    case first =>
      by_cases h1 : 0 ≤ addr
      · by_cases h2 : addr < 128
        · have HQ := Hid.in (wB_yes (n := addr) (a := 0) (b := 127) (by omega))
          go_wp2_with fail
          go_meet
          case rel => exact ⟨by rw [HQ.out], rfl⟩
        · have HQ := Hid.in (wB_no (n := addr) (a := 0) (b := 127) (by omega))
          go_wp2_with fail
          go_meet
          case rel => exact ⟨by rw [HQ.out], rfl⟩
      · have HQ := Hid.in (wB_no (n := addr) (a := 0) (b := 127) (by omega))
        go_wp2_with fail
        go_meet
        case rel => exact ⟨by rw [HQ.out], rfl⟩
    case rest =>
    obtain ⟨rfl, hw⟩ := hcut
    subst hw
    go_upto_if 44 with fail
    go_cut [14, 15] (fun x y wd => (∃ p q : Int, x = .int .i64 p ∧ y = .int .i64 q ∧ p = lineF addr ∧ q = wordF addr) ∧ wd = wc)
    case first =>
      by_cases h : 0 ≤ addr ∧ addr ≤ 127
      · rw [wB_yes h]
        obtain ⟨h1, h2⟩ := h
        go_wp2_with fail
        go_meet
        case rel => exact ⟨⟨_, _, rfl, rfl, by unfold lineF; split <;> omega, by unfold wordF; split <;> omega⟩, rfl⟩
      · rw [wB_no h]
        go_wp2_with fail
        go_meet
        case rel => exact ⟨⟨_, _, rfl, rfl, by unfold lineF; split <;> omega, by unfold wordF; split <;> omega⟩, rfl⟩
    case rest =>
    obtain ⟨⟨pL, pW, rfl, rfl, hpL, hpW⟩, hw⟩ := hcut
    subst hw
    have HP := Hid.in (And.intro hpL hpW)
    clear hpL hpW
    go_upto_region 14 with fail
    go_cut [54] (fun x wd => x = .bool (wB line 0 31) ∧ wd = wc)
    case first =>
      by_cases h1 : 0 ≤ line
      · by_cases h2 : line < 32
        · have HQ := Hid.in (wB_yes (n := line) (a := 0) (b := 31) (by omega))
          go_wp2_with fail
          go_meet
          case rel => exact ⟨by rw [HQ.out], rfl⟩
        · have HQ := Hid.in (wB_no (n := line) (a := 0) (b := 31) (by omega))
          go_wp2_with fail
          go_meet
          case rel => exact ⟨by rw [HQ.out], rfl⟩
      · have HQ := Hid.in (wB_no (n := line) (a := 0) (b := 31) (by omega))
        go_wp2_with fail
        go_meet
        case rel => exact ⟨by rw [HQ.out], rfl⟩
    case rest =>
    obtain ⟨rfl, hw⟩ := hcut
    subst hw
    go_upto_if 54 with fail
    go_cut [16, 17, 18] (fun x y v wd => (∃ p q r : Int, x = .int .i64 p ∧ y = .int .i64 q ∧ v = .int .i64 r ∧ p = addrF line word ∧ q = setF line sets ∧ r = areaF line) ∧ wd = wc)
    case first =>
      by_cases h : 0 ≤ line ∧ line ≤ 31
      · rw [wB_yes h]
        obtain ⟨h1, h2⟩ := h
        by_cases h3 : 0 ≤ word
        · by_cases h4 : word < 4
          all_goals
            by_cases hs : sets = 1 ∨ sets = 2 ∨ sets = 4 ∨ sets = 8
            · rcases hs with rfl | rfl | rfl | rfl
              all_goals
                go_wp2_with fail
                go_meet
                case rel => exact ⟨⟨_, _, _, rfl, rfl, rfl, by unfold addrF; split <;> omega, by unfold setF; split <;> omega, by unfold areaF; split <;> omega⟩, rfl⟩
            · have s1 : (sets == 1) = false := by simp; omega
              have s2 : (sets == 2) = false := by simp; omega
              have s4 : (sets == 4) = false := by simp; omega
              have s8 : (sets == 8) = false := by simp; omega
              have HS := Hid.in hs
              clear hs
              go_wp2_with fail
              go_meet
              case rel => exact ⟨⟨_, _, _, rfl, rfl, rfl, by unfold addrF; split <;> omega, by unfold setF; rw [if_neg (fun k => HS.out k.2)], by unfold areaF; split <;> omega⟩, rfl⟩
        · by_cases hs : sets = 1 ∨ sets = 2 ∨ sets = 4 ∨ sets = 8
          · rcases hs with rfl | rfl | rfl | rfl
            all_goals
              go_wp2_with fail
              go_meet
              case rel => exact ⟨⟨_, _, _, rfl, rfl, rfl, by unfold addrF; split <;> omega, by unfold setF; split <;> omega, by unfold areaF; split <;> omega⟩, rfl⟩
          · have s1 : (sets == 1) = false := by simp; omega
            have s2 : (sets == 2) = false := by simp; omega
            have s4 : (sets == 4) = false := by simp; omega
            have s8 : (sets == 8) = false := by simp; omega
            have HS := Hid.in hs
            clear hs
            go_wp2_with fail
            go_meet
            case rel => exact ⟨⟨_, _, _, rfl, rfl, rfl, by unfold addrF; split <;> omega, by unfold setF; rw [if_neg (fun k => HS.out k.2)], by unfold areaF; split <;> omega⟩, rfl⟩
      · rw [wB_no h]
        have HS := Hid.in h
        clear h
        go_wp2_with fail
        go_meet
        case rel => exact ⟨⟨_, _, _, rfl, rfl, rfl, by unfold addrF; rw [if_neg (fun k => HS.out k.1)], by unfold setF; rw [if_neg (fun k => HS.out k.1)], by unfold areaF; rw [if_neg HS.out]⟩, rfl⟩
    case rest =>
    obtain ⟨⟨pA, pS, pR, rfl, rfl, rfl, hA, hS, hR⟩, hw⟩ := hcut
    subst hw
    have HQ := Hid.in (And.intro hA (And.intro hS hR))
    clear hA hS hR
    have hc := HC.out
    go_wp2_with fail
    rcases hor with hz | hz
    · have HZ := Hid.in (HT.out.1 hz)
      refine (HTY.out hz _ HB.out).mono ?_
      rintro r w1 ⟨rfl, hb1⟩
      rw [← HZ.out]
      have HB1 := Hid.in (bstep HB.out (Nat.le_refl _) hb1)
      clear hb1 hc hz HC
      go_wp2_with fail
      refine (line_any _ _).mono ?_
      rw [← HP.out.1]
      rintro r w ⟨rfl, rfl⟩
      go_wp2_with fail
      refine (word_any _ _).mono ?_
      rw [← HP.out.2]
      rintro r w ⟨rfl, rfl⟩
      go_wp2_with fail
      refine (addr_any _ _ _).mono ?_
      rw [← HQ.out.1]
      rintro r w ⟨rfl, rfl⟩
      go_wp2_with fail
      refine (set_any _ _ _).mono ?_
      rw [← HQ.out.2.1]
      rintro r w ⟨rfl, rfl⟩
      go_wp2_with fail
      refine (area_any _ _).mono ?_
      rw [← HQ.out.2.2]
      rintro r w ⟨rfl, rfl⟩
      go_wp2_with fail
      refine (geomRuns_any _ sa (HE.out.below HB1.out)).mono ?_
      rintro r w2 ⟨rfl, hb2⟩
      have HB2 := Hid.in (bstep HB1.out (Nat.le_refl _) hb2)
      clear hb2
      go_wp2
      go_ret
      exact ⟨rfl, HB2.out⟩
    · have HZ := Hid.in (HT.out.2 hz)
      refine (HTN.out hz _ HB.out).mono ?_
      rintro r w1 ⟨rfl, hb1⟩
      rw [← HZ.out]
      have HB1 := Hid.in (bstep HB.out (Nat.le_refl _) hb1)
      clear hb1 hc hz HC
      go_wp2_with fail
      refine (line_any _ _).mono ?_
      rw [← HP.out.1]
      rintro r w ⟨rfl, rfl⟩
      go_wp2_with fail
      refine (word_any _ _).mono ?_
      rw [← HP.out.2]
      rintro r w ⟨rfl, rfl⟩
      go_wp2_with fail
      refine (addr_any _ _ _).mono ?_
      rw [← HQ.out.1]
      rintro r w ⟨rfl, rfl⟩
      go_wp2_with fail
      refine (set_any _ _ _).mono ?_
      rw [← HQ.out.2.1]
      rintro r w ⟨rfl, rfl⟩
      go_wp2_with fail
      refine (area_any _ _).mono ?_
      rw [← HQ.out.2.2]
      rintro r w ⟨rfl, rfl⟩
      go_wp2_with fail
      refine (geomRuns_any _ sa (HE.out.below HB1.out)).mono ?_
      rintro r w2 ⟨rfl, hb2⟩
      have HB2 := Hid.in (bstep HB1.out (Nat.le_refl _) hb2)
      clear hb2
      go_wp2
      go_ret
      exact ⟨rfl, HB2.out⟩
end Go.Proofs.YtgaajnefegjoeabDoor

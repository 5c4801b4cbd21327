/- DERIVED of the program: GeomBack returns true, for all numbers. Own work. -/
import Derived.Test.YtgaajnefegjoeabDoorGeoC
import Derived.Deep.DrawnRows
namespace Go.Proofs.YtgaajnefegjoeabDoor
open Go.RowKit Go.Extern.Stop Go.Stop Go.Extern

theorem back_math (l b k d : Int) (hl : 0 ≤ l ∧ l ≤ 31) (hb : 0 ≤ b ∧ b ≤ 31) (hk : k = 1 ∨ k = 2 ∨ k = 4 ∨ k = 8) (hd : (b ≤ l ∧ d = l - b) ∨ (l ≤ b ∧ d = b - l)) :
    (setF l k == setF b k) = (d.tmod k == 0) ∧ ((areaF l != areaF b) = false → d < 4) := by
  constructor
  · rw [setF, setF, if_pos ⟨hl, hk⟩, if_pos ⟨hb, hk⟩, Int.tmod_eq_emod_of_nonneg (by omega)]
    rw [Bool.eq_iff_iff, beq_iff_eq, beq_iff_eq]
    rcases hk with rfl | rfl | rfl | rfl <;> omega
  · rw [areaF, areaF, if_pos hl, if_pos hb]
    intro h
    have : l / 4 = b / 4 := by simpa using h
    omega

set_option maxHeartbeats 8000000 in
set_option maxRecDepth 100000 in
theorem geomBack_any (w : World) (sa : Nat → Addr) (hE : Env10 w sa) (addr other sets : Int) :
    Calls Tryd.prog 5 #[.int .i64 addr, .int .i64 other, .int .i64 sets] w fun r w' => r = .returned (.bool true) ∧ Below w.heap.size w w' := by
  have HE := Hid.in hE
  clear hE
  have b1 := wi_le addr 0 127 (by omega) (by omega)
  have b2 := wi_le other 0 31 (by omega) (by omega)
  have b3 := wi_le sets 0 3 (by omega) (by omega)
  generalize h1 : wi addr 0 127 = a at b1
  generalize h2 : wi other 0 31 = b at b2
  generalize h3 : wi sets 0 3 = s at b3
  have H1 := Hid.in h1
  have H2 := Hid.in h2
  have H3 := Hid.in h3
  clear h1 h2 h3
  obtain ⟨-, b1⟩ := b1
  obtain ⟨-, b2⟩ := b2
  obtain ⟨-, b3⟩ := b3
  obtain ⟨l, hl⟩ : ∃ l : Int, lineF (a : Int) = l := ⟨_, rfl⟩
  have hl1 : 0 ≤ l ∧ l ≤ 31 ∧ 4 * l ≤ a ∧ (a : Int) ≤ 4 * l + 3 := by
    rw [lineF, if_pos (by omega)] at hl; omega
  have hx : addrF l (wordF (a : Int)) = a := by
    rw [wordF, if_pos (by omega), addrF, if_pos (by omega)]; omega
  have HL := Hid.in hl
  have HX := Hid.in hx
  clear hl hx
  obtain ⟨l0, l1, l2, l3⟩ := hl1
  go_enter Tryd.func5, Tryd.ntmps5
  go_wp2_with fail
  refine (within_any addr 0 127 _ (by omega) (by omega) (by omega)).mono ?_
  rw [H1.out]
  rintro r w ⟨rfl, rfl⟩
  go_wp2_with fail
  refine (within_any other 0 31 _ (by omega) (by omega) (by omega)).mono ?_
  rw [H2.out]
  rintro r w ⟨rfl, rfl⟩
  go_wp2_with fail
  refine (line_any a _).mono ?_
  rw [HL.out]
  rintro r w ⟨rfl, rfl⟩
  go_upto_region 3 with fail
  go_cut [10] (fun x wc => (∃ k : Int, x = .int .i64 k ∧ (k = 1 ∨ k = 2 ∨ k = 4 ∨ k = 8)) ∧ w = wc)
  case first =>
    go_wp2_with fail
    refine (within_any sets 0 3 _ (by omega) (by omega) (by omega)).mono ?_
    rw [H3.out]
    rintro r w' ⟨rfl, rfl⟩
    have hs : s = 0 ∨ s = 1 ∨ s = 2 ∨ s = 3 := by omega
    clear b3 H3
    rcases hs with rfl | rfl | rfl | rfl
    all_goals
      go_wp2_with fail
      go_meet
      case rel => exact ⟨⟨_, rfl, by decide⟩, rfl⟩
  case rest =>
    obtain ⟨⟨k, rfl, hk⟩, hw⟩ := hcut
    subst hw
    have k1 : 1 ≤ k := by omega
    have k8 : k ≤ 8 := by omega
    have HK := Hid.in hk
    clear hk
    go_wp2_with fail
    refine (word_any a _).mono ?_
    rintro r w ⟨rfl, rfl⟩
    go_wp2_with fail
    refine (addr_any l _ _).mono ?_
    rw [HX.out]
    rintro r w ⟨rfl, rfl⟩
    go_upto_region 6 with fail
    go_cut [11] (fun x wc => (∃ d : Int, x = .int .i64 d ∧ ((b ≤ l ∧ d = l - b) ∨ (l ≤ b ∧ d = b - l))) ∧ w = wc)
    case first =>
      by_cases hbl : (b : Int) ≤ l
      · go_wp2_with fail
        go_meet
        case rel => exact ⟨⟨_, rfl, by omega⟩, rfl⟩
      · go_wp2_with fail
        go_meet
        case rel => exact ⟨⟨_, rfl, by omega⟩, rfl⟩
    case rest =>
      obtain ⟨⟨d, rfl, hd⟩, hw⟩ := hcut
      subst hw
      obtain ⟨m1, m2⟩ := back_math l b k d ⟨l0, l1⟩ (by omega) HK.out hd
      have d0 : 0 ≤ d := by omega
      have d1 : d ≤ 31 := by omega
      clear hd
      have hz : ¬ k = 0 := by omega
      generalize hq : (d.tmod k == 0) = q at m1
      generalize ht : (areaF l != areaF (b : Int)) = t at m2
      have hS0 : Below w.heap.size w w := Below.refl _ _
      have k5 : ∀ W, Below w.heap.size w W → Below w.heap.size w W.drew := fun W h => h.drew
      cases t
      · have m3 := m2 rfl
        clear m2
        cases q
        all_goals
          go_wp2_with fail
          go_region_held3 (fun W => Below w.heap.size w W) (first | go_keep | (simp [*]; done))
            (first
              | (go_at_call 12; refine (set_any _ _ _).mono ?_; rintro e w' ⟨rfl, rfl⟩)
              | (go_at_call 13; refine (area_any _ _).mono ?_; rintro e w' ⟨rfl, rfl⟩)
              | (go_at_call 3; refine (geomRuns_any _ sa ?_).mono ?_; (exact HE.out.below (by simp [*])); rintro e w' ⟨rfl, hb⟩; have hS : Below w.heap.size w w' := bstep (by simp [*]) (Nat.le_refl _) hb; clear hb))
          have HX := Hid.in hS
          clear k5 hS0 hS
          go_wp2
          go_ret
          exact ⟨rfl, HX.out⟩
      · clear m2
        cases q
        all_goals
          go_wp2_with fail
          first | (go_region_with (first | (go_at_call 12; refine (set_any _ _ _).mono ?_; rintro e w' ⟨rfl, rfl⟩) | (go_at_call 13; refine (area_any _ _).mono ?_; rintro e w' ⟨rfl, rfl⟩) | (go_at_call 3; refine (geomRuns_any _ sa ?_).mono ?_; (exact HE.out.below (by simp [*])); rintro e w' ⟨rfl, hb⟩; have hS : Below w.heap.size w w' := bstep (by simp [*]) (Nat.le_refl _) hb; clear hb))) | fail
          all_goals
            have HX := Hid.in hS
            clear k5 hS0 hS
            go_wp2
            go_ret
            exact ⟨rfl, HX.out⟩
end Go.Proofs.YtgaajnefegjoeabDoor

/- DERIVED of the program: BitsOf returns true. Own work. -/
import Derived.Test.YthklcpoidefoiaaBtC
import Derived.Test.YthklcpoidefoiaaBtD
namespace Go.Proofs.Ythklcpoidefoiaa
open Go.RowKit Go.Extern.Stop Go.Stop Go.Extern

/-- Is it among the first k, and a core? -/
def inS (zs : List Int) (c : Int) : Bool := decide (c ∈ zs ∧ 0 ≤ c ∧ c < 64)
theorem inS_snoc (zs : List Int) (z c : Int) : inS (zs ++ [z]) c = (inS zs c || decide (z = c ∧ 0 ≤ c ∧ c < 64)) := by
  unfold inS
  rw [Bool.eq_iff_iff]
  simp only [List.mem_append, List.mem_singleton, Bool.or_eq_true, decide_eq_true_eq]
  constructor
  · rintro ⟨h | h, h2⟩
    · exact .inl ⟨h, h2⟩
    · exact .inr ⟨h.symm, h2⟩
  · rintro (⟨h, h2⟩ | ⟨h, h2⟩)
    · exact ⟨.inl h, h2⟩
    · exact ⟨.inr h.symm, h2⟩
theorem ofS_in (zs : List Int) (c : Int) : hasS (ofS zs) c = inS zs c := ofS_has zs c

set_option maxHeartbeats 3200000 in
set_option maxRecDepth 20000 in
theorem bitsOf_any (w : World) (al : Option Addr) (capl : Nat) (zs : List Int) (hZ : Ints w al capl zs) (core : Int) :
    Calls Try.prog 5 #[.slice al zs.length capl, .int .i64 core] w fun r w' => r = .returned (.bool true) ∧ Below w.heap.size w w' := by
  have HZ := Hid.in hZ
  clear hZ
  obtain ⟨zt, hzt⟩ : ∃ zt, zt = zs.take 100 := ⟨_, rfl⟩
  have HZT : Hid (Ints w al capl zt) := Hid.in (by rw [hzt]; exact HZ.out.take 100)
  have hz100 : zt.length ≤ 100 := by rw [hzt, List.length_take]; omega
  have HZA : Hid (100 < zs.length → zt.length = 100) := Hid.in (fun h => by rw [hzt, List.length_take]; omega)
  have HZB : Hid (¬ 100 < zs.length → zt.length = zs.length) := Hid.in (fun h => by rw [hzt, List.length_take]; omega)
  have hle := HZ.out.le
  clear hzt
  go_enter Try.func5, Try.ntmps5
  go_upto_if 11 with fail
  go_cut [0] (fun v wd => v = .slice al zt.length capl ∧ wd = w)
  case first =>
    by_cases h : 100 < zs.length
    · have HA := Hid.in (HZA.out h)
      have hc100 : ¬ (capl : Int) < 100 := by omega
      go_wp2_with fail
      go_meet
      case rel => exact ⟨by rw [HA.out], rfl⟩
    · have HA := Hid.in (HZB.out h)
      go_wp2_with fail
      go_meet
      case rel => exact ⟨by rw [HA.out], rfl⟩
  case rest =>
  obtain ⟨rfl, hw⟩ := hcut
  subst hw
  rename World => w
  clear HZ HZA HZB hle
  go_wp2_with fail
  refine (roomyI_any al capl zt (-9) w HZT.out (by omega)).mono ?_
  rintro r w1 ⟨rfl, hq1, hb1⟩
  have HQ1 := Hid.in hq1
  have HB1 := Hid.in hb1
  clear hq1 hb1
  go_wp2_with fail
  refine (of_any _ _ _ zt _ (Ints.head HQ1.out (by omega) HZT.out.rng) rfl (by omega)).mono ?_
  rintro r w2 ⟨rfl, rfl⟩
  go_wp2
  go_loopw [7, 8] (fun v i wr => ∃ k : Nat, k ≤ zt.length ∧ i = .int .i64 (k : Int) ∧ v = .bool (inS (zt.take k) core) ∧ wr = w2) (fun _ i _ => 100 - (intOf i).toNat)
  case atStart => exact ⟨0, Nat.zero_le _, rfl, by simp [inS], rfl⟩
  case round =>
    obtain ⟨k, hk, rfl, rfl, rfl⟩ := hrel
    by_cases hlt : k < zt.length
    · obtain ⟨b, o, rfl, hc⟩ := (HZT.out.step HB1.out).cell k hlt
      have HS : Hid (inS (zt.take (k + 1)) core = (inS (zt.take k) core || decide (zt[k] = core ∧ 0 ≤ core ∧ core < 64))) := Hid.in (by rw [List.take_succ_eq_append_getElem hlt, inS_snoc])
      generalize zt[k] = z at hc HS
      generalize inS (zt.take k) core = Y at HS
      cases Y with
      | true =>
        go_wp2
        go_roundw
        case rel => exact ⟨k + 1, by omega, by go_num, by rw [HS.out]; rfl, trivial⟩
        case measure => simp [intOf]; omega
      | false =>
        by_cases h1 : z = core
        · subst h1
          by_cases h2 : 0 ≤ z
          · by_cases h3 : z < 64
            · have HD : Hid (decide (z = z ∧ 0 ≤ z ∧ z < 64) = true) := Hid.in (by simp [h2, h3])
              go_wp2
              go_roundw
              case rel => exact ⟨k + 1, by omega, by go_num, by rw [HS.out, HD.out]; rfl, trivial⟩
              case measure => simp [intOf]; omega
            · have HD : Hid (decide (z = z ∧ 0 ≤ z ∧ z < 64) = false) := Hid.in (by simp [h3])
              go_wp2
              go_roundw
              case rel => exact ⟨k + 1, by omega, by go_num, by rw [HS.out, HD.out]; rfl, trivial⟩
              case measure => simp [intOf]; omega
          · have HD : Hid (decide (z = z ∧ 0 ≤ z ∧ z < 64) = false) := Hid.in (by simp [h2])
            go_wp2
            go_roundw
            case rel => exact ⟨k + 1, by omega, by go_num, by rw [HS.out, HD.out]; rfl, trivial⟩
            case measure => simp [intOf]; omega
        · have HD : Hid (decide (z = core ∧ 0 ≤ core ∧ core < 64) = false) := Hid.in (by simp [h1])
          have hq : (z == core) = false := by simp [h1]
          clear h1
          go_wp2
          go_roundw
          case rel => exact ⟨k + 1, by omega, by go_num, by rw [HS.out, HD.out]; rfl, trivial⟩
          case measure => simp [intOf]; omega
    · have HT : Hid (zt.take k = zt) := Hid.in (List.take_of_length_le (by omega))
      rw [HT.out]
      have HX := Hid.in (ofS_lt zt)
      have HHS := Hid.in (ofS_in zt core)
      obtain ⟨x, hx⟩ : ∃ x, x = ofS zt := ⟨_, rfl⟩
      rw [← hx] at HX HHS ⊢
      clear hx
      go_wp2_with fail
      refine (intactI_any al w.heap.size capl (zt.length + 80) zt (-9) _ HQ1.out (by omega) (HZT.out.step HB1.out) (by omega)).mono ?_
      rintro r w3 ⟨rfl, hb3⟩
      have HB3 := Hid.in (bstep HB1.out (Nat.le_refl _) hb3)
      clear hb3
      go_wp2_with fail
      refine (has_any x HX.out core _).mono ?_
      rw [HHS.out]
      rintro r w4 ⟨rfl, rfl⟩
      go_wp2_with fail
      refine (list_any x HX.out _).mono ?_
      rintro r w5 ⟨a5, c5, rfl, hO5, hb5⟩
      have HO5 := Hid.in hO5
      have HB5 := Hid.in (bstep HB3.out (Nat.le_refl _) hb5)
      clear hO5 hb5
      go_wp2_with fail
      refine (of_any _ _ _ (lsI x) _ (HO5.out.ints (lsI_rng x)) (lsI_length x).symm (by rw [lsI_length]; have := cnt_le x; omega)).mono ?_
      rw [ofS_lsI HX.out]
      rintro r w6 ⟨rfl, rfl⟩
      go_wp2_with fail
      refine (list_any x HX.out _).mono ?_
      rintro r w7 ⟨a7, c7, rfl, hO7, hb7⟩
      have HB7 := Hid.in (bstep HB5.out (Nat.le_refl _) hb7)
      clear hO7 hb7
      go_wp2_with fail
      refine (count_any x HX.out _).mono ?_
      rintro r w8 ⟨rfl, rfl⟩
      go_wp2_with fail
      refine (add_any x HX.out core _).mono ?_
      rintro r w9 ⟨rfl, rfl⟩
      go_wp2_with fail
      refine (drop_any _ (addS_lt core HX.out) core _).mono ?_
      rw [add_drop_self HX.out]
      rintro r wA ⟨rfl, rfl⟩
      go_wp2_with fail
      refine (drop_any x HX.out core _).mono ?_
      rintro r wB ⟨rfl, rfl⟩
      go_wp2_with fail
      refine (bitsRuns_any _).mono ?_
      rintro r wC ⟨rfl, hbC⟩
      have HBC := Hid.in (bstep HB7.out (Nat.le_refl _) hbC)
      clear hbC
      go_wp2
      go_ret
      exact ⟨rfl, HBC.out⟩

end Go.Proofs.Ythklcpoidefoiaa

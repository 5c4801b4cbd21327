/- DERIVED of the program: PackSizes returns true. Own work. -/
import Derived.Test.YtkjenbilfjlfdaaDoorPkF
namespace Go.Proofs.YtkjenbilfjlfdaaDoor
open Go.RowKit Go.Extern.Stop Go.Stop Go.Extern

theorem zz_mono {a b : Int} (h0 : 0 ≤ a) (h : a ≤ b) : zz a ≤ zz b := by
  unfold zz
  rw [if_neg (by omega), if_neg (by omega)]
  omega

theorem enc_flip (a : Int) : (enc (zz (-1 - a))).length = (enc (zz a)).length := by
  unfold zz
  by_cases h : a < 0
  · rw [if_neg (by omega), if_pos h]
    exact (enc_even _).symm
  · rw [if_pos (by omega), if_neg h, show -1 - (-1 - a) = a from by omega]
    exact enc_even _

theorem flip_i64 (a : Int) (h0 : -9223372036854775808 ≤ a) (h1 : a ≤ 9223372036854775807) : bits .xor .i64 (-1) a = -1 - a := by
  show IntKind.i64.wrap ((BitVec.ofInt 64 (-1) ^^^ BitVec.ofInt 64 a).toNat : Int) = _
  rw [show BitVec.ofInt 64 (-1) = BitVec.allOnes 64 by decide, BitVec.allOnes_xor, BitVec.toNat_not, BitVec.toNat_ofInt, IntKind.wrap_i64]
  omega

set_option maxHeartbeats 1600000 in
set_option maxRecDepth 20000 in
theorem packSizes_any (w : World) (sa : Nat → Addr) (hE : Env10 w sa) (a b : Int) (a0 : -9223372036854775808 ≤ a) (a1 : a ≤ 9223372036854775807) (b0 : -9223372036854775808 ≤ b) (b1 : b ≤ 9223372036854775807) :
    Calls Tryd.prog 8 #[.int .i64 a, .int .i64 b] w fun r w' => r = .returned (.bool true) ∧ Below w.heap.size w w' := by
  have HE := Hid.in hE
  clear hE
  have l1 := enc_pos (zz a)
  have l2 := enc_len10 _ (zz_lt a a0 a1)
  have l4 := enc_len10 _ (zz_lt b b0 b1)
  have hfx := flip_i64 a a0 a1
  have HM : Hid (0 ≤ a → a ≤ b → (enc (zz a)).length ≤ (enc (zz b)).length) := Hid.in (fun h0 h => enc_mono _ _ (zz_mono h0 h))
  have HFL := Hid.in (enc_flip a)
  generalize hla : (enc (zz a)).length = la at l1 l2 HM HFL
  generalize hlb : (enc (zz b)).length = lb at l4 HM
  have HLA := Hid.in hla
  have HLB := Hid.in hlb
  clear hla hlb
  go_enter Tryd.func8, Tryd.ntmps8
  go_wp2_with fail
  refine (num_any none 0 [] a w (Lie.nil _) (by decide) a0 a1).mono ?_
  simp only [List.length_nil, Nat.zero_add, HLA.out]
  rintro r w1 ⟨an1, cn1, rfl, hO1, hb1⟩
  have HB1 := Hid.in hb1
  clear hO1 hb1
  go_wp2_with fail
  refine (num_any none 0 [] b w1 (Lie.nil _) (by decide) b0 b1).mono ?_
  simp only [List.length_nil, Nat.zero_add, HLB.out]
  rintro r w2 ⟨an2, cn2, rfl, hO2, hb2⟩
  have HB2 := Hid.in (bstep HB1.out (Nat.le_refl _) hb2)
  clear hO2 hb2
  by_cases h1 : a < 0
  · go_wp2_with fail
    refine (num_any none 0 [] (-1 - a) w2 (Lie.nil _) (by decide) (by omega) (by omega)).mono ?_
    simp only [List.length_nil, Nat.zero_add, HFL.out]
    rintro r w3 ⟨an3, cn3, rfl, hO3, hb3⟩
    have HB3 := Hid.in (bstep HB2.out (Nat.le_refl _) hb3)
    clear hO3 hb3
    go_wp2_with fail
    refine (packRuns_any w3 sa (HE.out.below HB3.out)).mono ?_
    rintro r w4 ⟨rfl, hb4⟩
    have HB4 := Hid.in (bstep HB3.out (Nat.le_refl _) hb4)
    clear hb4
    go_wp2
    go_ret
    exact ⟨rfl, HB4.out⟩
  · by_cases h2 : b < 0
    · go_wp2_with fail
      refine (num_any none 0 [] (-1 - a) w2 (Lie.nil _) (by decide) (by omega) (by omega)).mono ?_
      simp only [List.length_nil, Nat.zero_add, HFL.out]
      rintro r w3 ⟨an3, cn3, rfl, hO3, hb3⟩
      have HB3 := Hid.in (bstep HB2.out (Nat.le_refl _) hb3)
      clear hO3 hb3
      go_wp2_with fail
      refine (packRuns_any w3 sa (HE.out.below HB3.out)).mono ?_
      rintro r w4 ⟨rfl, hb4⟩
      have HB4 := Hid.in (bstep HB3.out (Nat.le_refl _) hb4)
      clear hb4
      go_wp2
      go_ret
      exact ⟨rfl, HB4.out⟩
    · by_cases h3 : b < a
      · go_wp2_with fail
        refine (num_any none 0 [] (-1 - a) w2 (Lie.nil _) (by decide) (by omega) (by omega)).mono ?_
        simp only [List.length_nil, Nat.zero_add, HFL.out]
        rintro r w3 ⟨an3, cn3, rfl, hO3, hb3⟩
        have HB3 := Hid.in (bstep HB2.out (Nat.le_refl _) hb3)
        clear hO3 hb3
        go_wp2_with fail
        refine (packRuns_any w3 sa (HE.out.below HB3.out)).mono ?_
        rintro r w4 ⟨rfl, hb4⟩
        have HB4 := Hid.in (bstep HB3.out (Nat.le_refl _) hb4)
        clear hb4
        go_wp2
        go_ret
        exact ⟨rfl, HB4.out⟩
      · have h4 := HM.out (by omega) (by omega)
        go_wp2_with fail
        refine (num_any none 0 [] (-1 - a) w2 (Lie.nil _) (by decide) (by omega) (by omega)).mono ?_
        simp only [List.length_nil, Nat.zero_add, HFL.out]
        rintro r w3 ⟨an3, cn3, rfl, hO3, hb3⟩
        have HB3 := Hid.in (bstep HB2.out (Nat.le_refl _) hb3)
        clear hO3 hb3
        go_wp2_with fail
        refine (packRuns_any w3 sa (HE.out.below HB3.out)).mono ?_
        rintro r w4 ⟨rfl, hb4⟩
        have HB4 := Hid.in (bstep HB3.out (Nat.le_refl _) hb4)
        clear hb4
        go_wp2
        go_ret
        exact ⟨rfl, HB4.out⟩

end Go.Proofs.YtkjenbilfjlfdaaDoor

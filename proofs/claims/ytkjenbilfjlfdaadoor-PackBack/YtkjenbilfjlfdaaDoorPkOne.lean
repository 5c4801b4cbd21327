/- DERIVED of the program: PackOne returns true. Own work. -/
import Derived.Test.YtkjenbilfjlfdaaDoorPkF
namespace Go.Proofs.YtkjenbilfjlfdaaDoor
open Go.RowKit Go.Extern.Stop Go.Stop Go.Extern

theorem dec_enc0 (n : Int) (h0 : -9223372036854775808 ≤ n) (h1 : n ≤ 9223372036854775807) (r : List Nat) : dec 0 0 (enc (zz n) ++ r) = (0, zz n, (enc (zz n)).length) := by
  have := dec_enc (zz n) 0 0 r (by omega) (by have := zz_lt n h0 h1; simpa using this) (by omega)
  simpa using this

theorem enc_inj {m n : Int} (m0 : -9223372036854775808 ≤ m) (m1 : m ≤ 9223372036854775807) (n0 : -9223372036854775808 ≤ n) (n1 : n ≤ 9223372036854775807) : enc (zz m) = enc (zz n) ↔ m = n := by
  constructor
  · intro h
    have h1 := dec_enc0 m m0 m1 []
    rw [h, dec_enc0 n n0 n1 []] at h1
    have h2 : zz n = zz m := by simpa using congrArg (fun x => x.2.1) h1
    rw [← uz_zz m, ← h2, uz_zz]
  · rintro rfl; rfl

set_option maxHeartbeats 1600000 in
set_option maxRecDepth 20000 in
theorem packOne_any (w : World) (sa : Nat → Addr) (hE : Env10 w sa) (m n lo hi : Int) (m0 : -9223372036854775808 ≤ m) (m1 : m ≤ 9223372036854775807) (n0 : -9223372036854775808 ≤ n) (n1 : n ≤ 9223372036854775807) :
    Calls Tryd.prog 7 #[.int .i64 m, .int .i64 n, .int .i64 lo, .int .i64 hi] w fun r w' => r = .returned (.bool true) ∧ Below w.heap.size w w' := by
  have HE := Hid.in hE
  clear hE
  have l2 := enc_len10 _ (zz_lt m m0 m1)
  have HI := Hid.in (enc_inj m0 m1 n0 n1)
  have HD := Hid.in (dec_enc0 m m0 m1 [])
  have HLM := Hid.in l2
  go_enter Tryd.func7, Tryd.ntmps7
  go_wp2_with fail
  refine (num_any none 0 [] m w (Lie.nil _) (by decide) m0 m1).mono ?_
  rw [List.nil_append, List.length_nil, Nat.zero_add]
  rintro r w1 ⟨an1, cn1, rfl, hO1, hb1⟩
  have HO1 := Hid.in hO1
  have HB1 := Hid.in hb1
  clear hO1 hb1
  go_wp2_with fail
  refine (read_any _ _ (enc (zz m)) _ sa HO1.out.lie (enc_byte _) (by omega)).mono ?_
  rintro r w2 ⟨q, rfl, hR, hb2⟩
  have HR := Hid.in hR
  have HB2 := Hid.in (bstep HB1.out (Nat.le_refl _) hb2)
  have HQ : Hid (w.heap.size ≤ q) := Hid.in (by have := hR.rng; have := HB1.out.size; omega)
  clear hR hb2
  go_wp2_with fail
  refine (in_any w2 sa (HE.out.below HB2.out) _ _ q 0 0 _ HR.out lo hi).mono ?_
  have HDD : Hid (dec 0 0 ((enc (zz m)).drop 0) = (0, zz m, (enc (zz m)).length)) := Hid.in (by have := HD.out; rw [List.append_nil] at this; exact this)
  have HMN : Hid (decide (enc (zz m) = enc (zz n)) = (m == n)) := Hid.in (by rw [Bool.eq_iff_iff]; simp [HI.out])
  generalize hmn : (m == n) = e at HMN
  by_cases hin : lo ≤ m ∧ m ≤ hi
  · rw [inS_ok HDD.out (by rw [uz_zz]; omega), uz_zz]
    rintro r w3 ⟨rfl, hR3, hg3⟩
    have HR3 := Hid.in hR3
    have HB3 := Hid.in (wrote HB2.out hg3 (Nat.le_refl _) HQ.out)
    clear hR3 hg3
    obtain ⟨i1, i2⟩ := hin
    go_wp2_with fail
    refine (num_any none 0 [] m w3 (Lie.nil _) (by decide) m0 m1).mono ?_
    rw [List.nil_append, List.length_nil, Nat.zero_add]
    rintro r w4 ⟨an4, cn4, rfl, hO4, hb4⟩
    have HO4 := Hid.in hO4
    have HB4 := Hid.in hb4
    clear hO4 hb4
    go_wp2_with fail
    refine (num_any none 0 [] n w4 (Lie.nil _) (by decide) n0 n1).mono ?_
    rw [List.nil_append, List.length_nil, Nat.zero_add]
    rintro r w5 ⟨an5, cn5, rfl, hO5, hb5⟩
    have HO5 := Hid.in hO5
    have HB5 := Hid.in hb5
    clear hO5 hb5
    go_wp2_with fail
    refine (same_any _ _ _ _ _ _ (enc (zz m)) (enc (zz n)) _ rfl rfl (HO4.out.lie.step HB5.out) HO5.out.lie (by omega)).mono ?_
    rw [HMN.out]
    rintro r w6 ⟨rfl, hb6⟩
    have HB6 := Hid.in (bstep (bstep HB4.out (Nat.le_refl _) HB5.out) (Nat.le_refl _) hb6)
    clear hb6
    go_wp2_with fail
    refine (rwrong_any w6 sa _ _ q _ 0 _ (HR3.out.step HB6.out)).mono ?_
    rw [show rerr sa 0 (0 + (enc (zz m)).length) = .nilIface from rfl]
    rintro r w' ⟨rfl, rfl⟩
    have HB7 := Hid.in (bstep HB3.out (Nat.le_refl _) HB6.out)
    go_wp2_with fail
    refine (packRuns_any _ sa (HE.out.below HB7.out)).mono ?_
    rintro r w8 ⟨rfl, hb8⟩
    have HB8 := Hid.in (bstep HB7.out (Nat.le_refl _) hb8)
    clear hb8
    go_wp2
    go_ret
    exact ⟨rfl, HB8.out⟩
  · rw [inS_out HDD.out (by rw [uz_zz]; omega)]
    rintro r w3 ⟨rfl, hR3, hg3⟩
    have HR3 := Hid.in hR3
    have HB3 := Hid.in (wrote HB2.out hg3 (Nat.le_refl _) HQ.out)
    clear hR3 hg3
    by_cases h1 : m < lo
    · clear hin
      go_wp2_with fail
      refine (num_any none 0 [] m w3 (Lie.nil _) (by decide) m0 m1).mono ?_
      rw [List.nil_append, List.length_nil, Nat.zero_add]
      rintro r w4 ⟨an4, cn4, rfl, hO4, hb4⟩
      have HO4 := Hid.in hO4
      have HB4 := Hid.in hb4
      clear hO4 hb4
      go_wp2_with fail
      refine (num_any none 0 [] n w4 (Lie.nil _) (by decide) n0 n1).mono ?_
      rw [List.nil_append, List.length_nil, Nat.zero_add]
      rintro r w5 ⟨an5, cn5, rfl, hO5, hb5⟩
      have HO5 := Hid.in hO5
      have HB5 := Hid.in hb5
      clear hO5 hb5
      go_wp2_with fail
      refine (same_any _ _ _ _ _ _ (enc (zz m)) (enc (zz n)) _ rfl rfl (HO4.out.lie.step HB5.out) HO5.out.lie (by omega)).mono ?_
      rw [HMN.out]
      rintro r w6 ⟨rfl, hb6⟩
      have HB6 := Hid.in (bstep (bstep HB4.out (Nat.le_refl _) HB5.out) (Nat.le_refl _) hb6)
      clear hb6
      go_wp2_with fail
      refine (rwrong_any w6 sa _ _ q 0 4 _ (HR3.out.step HB6.out)).mono ?_
      rw [show rerr sa 4 0 = flt opP 0 (snt (sa 4)) from rfl]
      rintro r w' ⟨rfl, rfl⟩
      have HB7 := Hid.in (bstep HB3.out (Nat.le_refl _) HB6.out)
      go_wp2_with fail
      refine (rat_any _ sa _ _ q 0 4 _ (HR3.out.step HB6.out)).mono ?_
      rintro r w' ⟨rfl, rfl⟩
      go_wp2_with fail
      refine (packRuns_any _ sa (HE.out.below HB7.out)).mono ?_
      rintro r w8 ⟨rfl, hb8⟩
      have HB8 := Hid.in (bstep HB7.out (Nat.le_refl _) hb8)
      clear hb8
      go_wp2
      go_ret
      exact ⟨rfl, HB8.out⟩
    · have h2 : hi < m := by omega
      clear hin
      go_wp2_with fail
      refine (num_any none 0 [] m w3 (Lie.nil _) (by decide) m0 m1).mono ?_
      rw [List.nil_append, List.length_nil, Nat.zero_add]
      rintro r w4 ⟨an4, cn4, rfl, hO4, hb4⟩
      have HO4 := Hid.in hO4
      have HB4 := Hid.in hb4
      clear hO4 hb4
      go_wp2_with fail
      refine (num_any none 0 [] n w4 (Lie.nil _) (by decide) n0 n1).mono ?_
      rw [List.nil_append, List.length_nil, Nat.zero_add]
      rintro r w5 ⟨an5, cn5, rfl, hO5, hb5⟩
      have HO5 := Hid.in hO5
      have HB5 := Hid.in hb5
      clear hO5 hb5
      go_wp2_with fail
      refine (same_any _ _ _ _ _ _ (enc (zz m)) (enc (zz n)) _ rfl rfl (HO4.out.lie.step HB5.out) HO5.out.lie (by omega)).mono ?_
      rw [HMN.out]
      rintro r w6 ⟨rfl, hb6⟩
      have HB6 := Hid.in (bstep (bstep HB4.out (Nat.le_refl _) HB5.out) (Nat.le_refl _) hb6)
      clear hb6
      go_wp2_with fail
      refine (rwrong_any w6 sa _ _ q 0 4 _ (HR3.out.step HB6.out)).mono ?_
      rw [show rerr sa 4 0 = flt opP 0 (snt (sa 4)) from rfl]
      rintro r w' ⟨rfl, rfl⟩
      have HB7 := Hid.in (bstep HB3.out (Nat.le_refl _) HB6.out)
      go_wp2_with fail
      refine (rat_any _ sa _ _ q 0 4 _ (HR3.out.step HB6.out)).mono ?_
      rintro r w' ⟨rfl, rfl⟩
      go_wp2_with fail
      refine (packRuns_any _ sa (HE.out.below HB7.out)).mono ?_
      rintro r w8 ⟨rfl, hb8⟩
      have HB8 := Hid.in (bstep HB7.out (Nat.le_refl _) hb8)
      clear hb8
      go_wp2
      go_ret
      exact ⟨rfl, HB8.out⟩

end Go.Proofs.YtkjenbilfjlfdaaDoor

/- DERIVED of the program: ArrayRuns returns true. Own work. -/
import Derived.Test.YtcackmmfnojpfaaDoorArG
namespace Go.Proofs.YtcackmmfnojpfaaDoor
open Go.RowKit Go.Extern.Stop Go.Stop Go.Extern

theorem aof_any (l : Int) (w : World) : Calls Tryd.prog 11 #[.int .i64 l] w fun r w' => r = .returned (En.one l).val ∧ Below w.heap.size w w' := by
  go_enter Tryd.func11, Tryd.ntmps11
  go_wp2
  exact bodyPost_ret (v := (En.one l).val) (by simp [results, Tryd.results11, go_sem, En.one]) rfl ⟨rfl, below_alloc _ _⟩

theorem perr_some (sa : Nat → Addr) (c : Nat) (op : ByteArray) (at_ : Int) (h : c ≠ 0) : perr sa c op at_ = flt op at_ (snt (sa c)) := if_neg h
theorem perr_none (sa : Nat → Addr) (op : ByteArray) (at_ : Int) : perr sa 0 op at_ = .nilIface := rfl

/-- Put with its answer. -/
theorem put_c (w : World) (sa : Nat → Addr) (hE : Env10 w sa) (B k : Nat) (A : List St) (hA : Arr w B k A) (e : En) (c : Nat) (A' : List St) (h : putA A e = (c, A')) :
    Calls Tryd.prog 10 #[.pointer (some ⟨B + 1, 0, none⟩), e.val] w fun r w' => r = .returned (perr sa c opPut e.line) ∧ Arr w' B k A' ∧ Apart B (B + 2 + A.length) w w' := by
  have := put_any w sa hE B k A hA e
  rw [h] at this
  exact this
theorem drop_c (w : World) (B k : Nat) (A : List St) (hA : Arr w B k A) (l : Int) (c : Bool) (A' : List St) (h : dropA A l = (c, A')) :
    Calls Tryd.prog 14 #[.pointer (some ⟨B + 1, 0, none⟩), .int .i64 l] w fun r w' => r = .returned (.bool c) ∧ Arr w' B k A' ∧ Apart B (B + 2 + A.length) w w' := by
  have := drop_any w B k A hA l
  rw [h] at this
  exact this
theorem atouch_c (w : World) (B k : Nat) (A : List St) (hA : Arr w B k A) (l : Int) (c : Bool) (A' : List St) (h : touchA A l = (c, A')) :
    Calls Tryd.prog 12 #[.pointer (some ⟨B + 1, 0, none⟩), .int .i64 l] w fun r w' => r = .returned (.bool c) ∧ Arr w' B k A' ∧ Apart B (B + 2 + A.length) w w' := by
  have := atouch_any w B k A hA l
  rw [h] at this
  exact this
theorem room_c (w : World) (B k : Nat) (A : List St) (hA : Arr w B k A) (l : Int) (c : Bool) (h : roomA A l = c) :
    Calls Tryd.prog 16 #[.pointer (some ⟨B + 1, 0, none⟩), .int .i64 l] w fun r w' => r = .returned (.bool c) ∧ Below w.heap.size w w' := by
  rw [← h]; exact room_any w B k A hA l
theorem avictim_c (w : World) (B k : Nat) (A : List St) (hA : Arr w B k A) (l : Int) (ao : Option Addr) (n cap : Nat) (zs : List Int) (hn : n = zs.length) (hZ : Ints w ao cap zs) (hlen : zs.length ≤ 35184372088832) (c : Int) (h : vicA A l zs = c) :
    Calls Tryd.prog 13 #[.pointer (some ⟨B + 1, 0, none⟩), .int .i64 l, .slice ao n cap] w fun r w' => r = .returned (.int .i64 c) ∧ Below w.heap.size w w' := by
  rw [← h, hn]; exact avictim_any w B k A hA l ao cap zs hZ hlen

set_option maxHeartbeats 1600000 in
theorem arrayRuns_any (w : World) (sa : Nat → Addr) (hE : Env10 w sa) : Calls Tryd.prog 3 #[] w fun r w' => r = .returned (.bool true) ∧ Below w.heap.size w w' := by
  have HE := Hid.in hE
  clear hE
  go_enter Tryd.func3, Tryd.ntmps3
  go_wp2_with fail
  refine (new_ok w 1 2 (by omega) (by omega)).mono ?_
  rintro r w1 ⟨rfl, hA, hb⟩
  have HA1 := Hid.in hA
  have HB1 := Hid.in hb
  clear hA hb
  go_wp2_with fail
  refine (aof_any 1 _).mono ?_
  rintro r w2 ⟨rfl, hb⟩
  have HA2 := Hid.in (HA1.out.step hb)
  have HB2 := Hid.in (bstep HB1.out (Nat.le_refl _) hb)
  clear hb HA1
  go_wp2_with fail
  refine (put_c w2 sa (HE.out.below HB2.out) _ 2 _ HA2.out (En.one 1) 0 [(0, [En.one 1, En.zero])] (by decide +kernel)).mono ?_
  rintro r w3 ⟨rfl, hA, hp⟩
  have HA3 := Hid.in hA
  have HB3 := Hid.in (hp.below HB2.out (Nat.le_refl _) HB2.out.size)
  clear hA hp HA2
  rw [perr_none]
  go_wp2_with fail
  refine (aof_any 2 _).mono ?_
  rintro r w4 ⟨rfl, hb⟩
  have HA4 := Hid.in (HA3.out.step hb)
  have HB4 := Hid.in (bstep HB3.out (Nat.le_refl _) hb)
  clear hb HA3
  go_wp2_with fail
  refine (put_c w4 sa (HE.out.below HB4.out) _ 2 _ HA4.out (En.one 2) 0 [(0, [En.one 1, En.one 2])] (by decide +kernel)).mono ?_
  rintro r w5 ⟨rfl, hA, hp⟩
  have HA5 := Hid.in hA
  have HB5 := Hid.in (hp.below HB4.out (Nat.le_refl _) HB4.out.size)
  clear hA hp HA4
  rw [perr_none]
  go_wp2_with fail
  refine (aof_any 3 _).mono ?_
  rintro r w6 ⟨rfl, hb⟩
  have HA6 := Hid.in (HA5.out.step hb)
  have HB6 := Hid.in (bstep HB5.out (Nat.le_refl _) hb)
  clear hb HA5
  go_wp2_with fail
  refine (put_c w6 sa (HE.out.below HB6.out) _ 2 _ HA6.out (En.one 3) 6 [(0, [En.one 1, En.one 2])] (by decide +kernel)).mono ?_
  rintro r w7 ⟨rfl, hA, hp⟩
  have HA7 := Hid.in hA
  have HB7 := Hid.in (hp.below HB6.out (Nat.le_refl _) HB6.out.size)
  clear hA hp HA6
  rw [perr_some _ _ _ _ (by decide)]
  go_wp2_with fail
  refine (atouch_c w7 _ 2 _ HA7.out 1 true [(1, [En.one 1, En.one 2])] (by decide +kernel)).mono ?_
  rintro r w8 ⟨rfl, hA, hp⟩
  have HA8 := Hid.in hA
  have HB8 := Hid.in (hp.below HB7.out (Nat.le_refl _) HB7.out.size)
  clear hA hp HA7
  go_wp2_with fail
  refine (avictim_c w8 _ 2 _ HA8.out 3 none 0 0 [] rfl (Ints.nil _) (by decide) 2 (by decide +kernel)).mono ?_
  rintro r w9 ⟨rfl, hb⟩
  have HA9 := Hid.in (HA8.out.step hb)
  have HB9 := Hid.in (bstep HB8.out (Nat.le_refl _) hb)
  clear hb HA8
  go_wp2_with fail
  have HBa := Hid.in (below_alloc w9 (.cells #[.int .i64 2] 3))
  refine (avictim_c _ _ 2 _ (HA9.out.step HBa.out) 3 (some ⟨w9.heap.size, 0, none⟩) 1 1 [2] rfl (Ints.lit w9 3 [2] _ rfl (by simp)) (by decide) 1 (by decide +kernel)).mono ?_
  rintro r w10 ⟨rfl, hb⟩
  have HA10 := Hid.in ((HA9.out.step HBa.out).step hb)
  have HB10 := Hid.in (bstep (bstep HB9.out (Nat.le_refl _) HBa.out) (Nat.le_refl _) hb)
  clear hb HA9 HBa
  go_wp2_with fail
  refine (drop_c w10 _ 2 _ HA10.out 2 true [(1, [En.one 1, En.zero])] (by decide +kernel)).mono ?_
  rintro r w11 ⟨rfl, hA, hp⟩
  have HA11 := Hid.in hA
  have HB11 := Hid.in (hp.below HB10.out (Nat.le_refl _) HB10.out.size)
  clear hA hp HA10
  go_wp2_with fail
  refine (kIs_flt opPut 3 [] 6 (by omega) (by omega) w11 sa (HE.out.below HB11.out)).mono ?_
  rintro r w12 ⟨rfl, hb⟩
  have HA12 := Hid.in (HA11.out.step hb)
  have HB12 := Hid.in (bstep HB11.out (Nat.le_refl _) hb)
  clear hb HA11
  go_wp2_with fail
  refine (room_c w12 _ 2 _ HA12.out 3 true (by decide +kernel)).mono ?_
  rintro r w13 ⟨rfl, hb⟩
  have HB13 := Hid.in (bstep HB12.out (Nat.le_refl _) hb)
  clear hb HA12
  go_wp2
  go_ret
  exact ⟨rfl, HB13.out⟩

end Go.Proofs.YtcackmmfnojpfaaDoor

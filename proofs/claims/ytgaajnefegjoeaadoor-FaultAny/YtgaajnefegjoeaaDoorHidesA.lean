/- DERIVED of the program: FaultHides returns true, for every code, text and number. Own work. -/
import Derived.Test.YtgaajnefegjoeaaDoorFltEnv
import Derived.Deep.DrawnRows
namespace Go.Proofs.YtgaajnefegjoeaaDoor
open Go.RowKit Go.Extern.Stop Go.Stop Go.Extern

theorem wrap_chn (op : ByteArray) (n : Int) (l : List (ByteArray × Int)) (a : Addr) (w : World) :
    Calls Tryd.prog 9 #[.string op, .int .i64 n, chn l (snt a)] w fun r w' => r = .returned (flt op n (chn l (snt a))) ∧ w' = w := by
  cases l with
  | nil => exact wrap_some op n _ _ w
  | cons x l => exact wrap_some op n _ _ w

/-- E is a way of k Faults down to the sentinel at a. -/
def Way (E : Value) (a : Addr) (k : Nat) : Prop := ∃ l : List (ByteArray × Int), l.length = k ∧ E = chn l (snt a)
theorem Way.zero (a : Addr) : Way (snt a) a 0 := ⟨[], rfl, rfl⟩
theorem Way.more {E : Value} {a : Addr} {k : Nat} (h : Way E a k) (op : ByteArray) (n : Int) : Way (flt op n E) a (k + 1) := by
  obtain ⟨l, rfl, rfl⟩ := h
  exact ⟨(op, n) :: l, rfl, rfl⟩
theorem Way.wrap {E : Value} {a : Addr} {k : Nat} (h : Way E a k) (op : ByteArray) (n : Int) (w : World) : Calls Tryd.prog 9 #[.string op, .int .i64 n, E] w fun r w' => r = .returned (flt op n E) ∧ w' = w := by
  obtain ⟨l, rfl, rfl⟩ := h
  exact wrap_chn op n l a w
theorem Way.depth {E : Value} {a : Addr} {k : Nat} (h : Way E a k) (hk : k ≤ 1000) (w : World) : Calls Tryd.prog 14 #[E] w fun r w' => r = .returned (.int .i64 (k + 1)) ∧ Below w.heap.size w w' := by
  obtain ⟨l, rfl, rfl⟩ := h
  exact depth_chn l a w (by omega)
theorem Way.root {E : Value} {a : Addr} {k : Nat} (h : Way E a k) (hk : k ≤ 1000) (w : World) : Calls Tryd.prog 11 #[E] w fun r w' => r = .returned (snt a) ∧ Below w.heap.size w w' := by
  obtain ⟨l, rfl, rfl⟩ := h
  exact root_chn l a w (by omega)
theorem Way.is {E : Value} {a : Addr} {k : Nat} (h : Way E a k) (w : World) (b : Addr) (ha : Sen w a) (hb : Sen w b) : Calls Tryd.prog 18 #[E, snt b] w fun r w' => r = .returned (.bool (decide (a = b))) ∧ Below w.heap.size w w' := by
  obtain ⟨l, rfl, rfl⟩ := h
  exact Is_chn l a b w ha hb

theorem neSS (a : Addr) (w : World) : (binOp .neq 23 (snt a) (snt a)).run Tryd.prog w = .ok (.bool false) w := by
  obtain ⟨i, hi, hcmp⟩ := Option.map_eq_some_iff.1 Tryd.isComp
  obtain ⟨j, hj, hjs⟩ := Option.map_eq_some_iff.1 Tryd.isSize
  simp only [binOp]
  simp [Op.equal, Op.maxDepth, run_equalIn_iface_ptr_same w 9998 a Tryd.underlying23 Tryd.underlying84 hi hcmp hj]

set_option maxHeartbeats 40000000 in
set_option maxRecDepth 100000 in
theorem hides_any (w : World) (sa : Nat → Addr) (hE : Env10 w sa) (code other : Int) (op : ByteArray) (at_ times : Int) :
    Calls Tryd.prog 5 #[.int .i64 code, .int .i64 other, .string op, .int .i64 at_, .int .i64 times] w fun r w' => r = .returned (.bool true) ∧ Below w.heap.size w w' := by
  have HE := Hid.in hE
  clear hE
  have b1 := wi_le code 1 10 (by omega) (by omega)
  have b2 := wi_le other 1 10 (by omega) (by omega)
  have b3 := wi_le times 0 9 (by omega) (by omega)
  generalize hc : wi code 1 10 = c at b1
  generalize hd : wi other 1 10 = d at b2
  generalize ht : wi times 0 9 = T at b3
  have HC := Hid.in hc
  have HD := Hid.in hd
  have HT := Hid.in ht
  clear hc hd ht
  go_enter Tryd.func5, Tryd.ntmps5
  go_wp2_with fail
  refine (within_any code 1 10 _ (by omega) (by omega) (by omega)).mono ?_
  rw [HC.out]
  rintro r w ⟨rfl, rfl⟩
  go_wp2_with fail
  refine (error_code _ sa HE.out c (by omega) (by omega)).mono ?_
  rintro r w ⟨rfl, rfl⟩
  go_wp2_with fail
  refine (within_any other 1 10 _ (by omega) (by omega) (by omega)).mono ?_
  rw [HD.out]
  rintro r w ⟨rfl, rfl⟩
  go_wp2_with fail
  refine (error_code _ sa HE.out d (by omega) (by omega)).mono ?_
  rintro r w ⟨rfl, rfl⟩
  go_wp2_with fail
  refine (within_any times 0 9 _ (by omega) (by omega) (by omega)).mono ?_
  rw [HT.out]
  rintro r w ⟨rfl, rfl⟩
  go_wp2
  go_loopw [13, 14] (fun e i wr => ∃ k m : Nat, k + m ≤ 9 ∧ i = .int .i64 m ∧ Way e (sa c) k ∧ Below w.heap.size w wr) (fun _ i _ => (intOf i).toNat)
  case atStart => exact ⟨0, T, by omega, rfl, Way.zero _, Below.refl _ _⟩
  case round =>
    obtain ⟨k, m, hkm, rfl, hway, hb⟩ := hrel
    have HW := Hid.in hway
    have HB := Hid.in hb
    clear hway hb
    by_cases hm : 0 < m
    · go_wp2_with fail
      refine (HW.out.wrap _ _ _).mono ?_
      rintro r wr ⟨rfl, rfl⟩
      go_wp2_with fail
      refine ((HW.out.more _ _).depth (by omega) _).mono ?_
      rintro r w2 ⟨rfl, hb2⟩
      have HB2 := Hid.in (bstep HB.out (Nat.le_refl _) hb2)
      clear hb2
      go_wp2_with fail
      refine (HW.out.depth (by omega) _).mono ?_
      rintro r w3 ⟨rfl, hb3⟩
      have HB3 := Hid.in (bstep HB2.out (Nat.le_refl _) hb3)
      clear hb3
      go_wp2_with fail
      refine ((HW.out.more _ _).root (by omega) _).mono ?_
      rintro r w4 ⟨rfl, hb4⟩
      have HB4 := Hid.in (bstep HB3.out (Nat.le_refl _) hb4)
      clear hb4
      go_wp2_with fail
      refine (HW.out.root (by omega) _).mono ?_
      rintro r w5 ⟨rfl, hb5⟩
      have HB5 := Hid.in (bstep HB4.out (Nat.le_refl _) hb5)
      have hn := neSS (sa c) w5
      clear hb5
      go_wp2
      go_roundw
      case rel => exact ⟨k + 1, m - 1, by omega, by go_num, HW.out.more _ _, HB5.out⟩
      case measure => simp [intOf]; omega
    · have hsA : ∀ W, Below w.heap.size w W → Sen W (sa c) := fun W h => (HE.out.s c (by omega) (by omega)).below h (HE.out.s c (by omega) (by omega)).lt
      have hsB : ∀ W, Below w.heap.size w W → Sen W (sa d) := fun W h => (HE.out.s d (by omega) (by omega)).below h (HE.out.s d (by omega) (by omega)).lt
      have k5 : ∀ W, Below w.heap.size w W → Below w.heap.size w W.drew := fun W h => h.drew
      have hS0 : Below w.heap.size w wr := HB.out
      have e0 : ∀ W, Below w.heap.size w W → (binOp .eql 23 (snt (sa c)) (snt (sa d))).run Tryd.prog W = .ok (.bool (decide (sa c = sa d))) W := fun W h => eqSS _ _ _ (hsA W h) (hsB W h)
      generalize hq : decide (sa c = sa d) = q at e0
      have HQ := Hid.in hq
      clear hq
      cases q
      all_goals
        go_wp2_with fail
        go_region_held3 (fun W => Below w.heap.size w W) (first | go_keep | (simp [*]; done))
          (first
            | (go_at_call 18; refine (HW.out.is _ _ ?_ ?_).mono ?_; (exact hsA _ (by simp [*])); (first | exact hsA _ (by simp [*]) | exact hsB _ (by simp [*])); rintro e w' ⟨rfl, hb⟩; (first | rw [show decide (sa c = sa c) = true from by simp] | rw [HQ.out]); have hS : Below w.heap.size w w' := bstep (by simp [*]) (Nat.le_refl _) hb; clear hb)
            | (go_at_call 3; refine (runs_any_world _ (sa 6) (sa 7) ?_).mono ?_; (exact (HE.out.below (by simp [*])).env); rintro e w' ⟨rfl, hb⟩; have hS : Below w.heap.size w w' := bstep (by simp [*]) (Nat.le_refl _) hb; clear hb))
        have HX := Hid.in hS
        clear hsA hsB k5 e0 hS0 hS
        go_wp2
        go_ret
        exact ⟨rfl, HX.out⟩
end Go.Proofs.YtgaajnefegjoeaaDoor

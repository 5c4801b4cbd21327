/- DERIVED of the program: errors.Is of a way of Faults down to a sentinel, the target a sentinel. After the guide's worked errors.Is. Own work. -/
import Derived.Test.YtakomlmbdienpaaDoorBaseAt
namespace Go.Proofs.YtakomlmbdienpaaDoor
open Go.RowKit Go.Extern.Stop Go.Stop Go.Extern

/-- A sentinel's own block. -/
def Sen (w : World) (a : Addr) : Prop := ∃ c t, w.heap[a.block]? = some (.cells c t (0, 0))

theorem Sen.lt {w : World} {a : Addr} (h : Sen w a) : a.block < w.heap.size := by
  obtain ⟨c, t, h⟩ := h
  rcases Nat.lt_or_ge a.block w.heap.size with h' | h'
  · exact h'
  · rw [Array.getElem?_eq_none h'] at h; cases h

theorem Sen.below {B : Nat} {w w' : World} {a : Addr} (h : Sen w a) (hb : Below B w w') (hB : a.block < B) : Sen w' a := by
  obtain ⟨c, t, h⟩ := h
  exact ⟨c, t, (hb.block _ hB).trans h⟩

theorem Sen.alloc {w : World} {a : Addr} (h : Sen w a) (o : Obj) : Sen (w.alloc o) a := h.below ((Below.refl _ _).alloc (Nat.le_refl _) o) h.lt

theorem Tryd.isComp : (Tryd.prog.info? 110).map (·.comparable) = some true := by kernel_rfl

theorem Tryd.isSize : (Tryd.prog.info? 130).map (·.size) = some 1 := by kernel_rfl

theorem eqSS (a b : Addr) (w : World) (ha : Sen w a) (hb : Sen w b) : (binOp .eql 24 (snt a) (snt b)).run Tryd.prog w = .ok (.bool (decide (a = b))) w := by
  obtain ⟨i, hi, hcmp⟩ := Option.map_eq_some_iff.1 Tryd.isComp
  obtain ⟨j, hj, hjs⟩ := Option.map_eq_some_iff.1 Tryd.isSize
  obtain ⟨ca, ta, ha⟩ := ha
  obtain ⟨cb, tb, hb⟩ := hb
  by_cases h : a = b
  · subst h
    rw [run_eql_iface_ptr_same (P := Tryd.prog) w a Tryd.underlying24 Tryd.underlying110 hi hcmp hj]
    simp
  · rw [run_eql_iface_ptr_other (P := Tryd.prog) w Tryd.underlying24 Tryd.underlying110 hi hcmp hj (by rw [hjs]; decide) h ha hb]
    simp [h]

theorem Tryd.noIsS (v : Value) (xT : TypeId) (w : World) : (Instr.typeAssert (.iface 110 v) xT 97 true).run Tryd.prog w = .ok (.tuple #[.nilIface, .bool false]) w := run_typeAssert_lacksB Tryd.underlying97 (by kernel_rfl) (by kernel_rfl) v xT w

theorem Tryd.noIsF (v : Value) (xT : TypeId) (w : World) : (Instr.typeAssert (.iface 70 v) xT 97 true).run Tryd.prog w = .ok (.tuple #[.nilIface, .bool false]) w := run_typeAssert_lacksB Tryd.underlying97 (by kernel_rfl) (by kernel_rfl) v xT w

theorem eqFS (v : Value) (b : Addr) (w : World) : (binOp .eql 24 (.iface 70 v) (snt b)).run Tryd.prog w = .ok (.bool false) w := run_eql_iface_types _ _ _ _ Tryd.underlying24 (by decide) w

set_option maxHeartbeats 1600000 in
theorem is_chn (l : List (ByteArray × Int)) (a b : Addr) (w : World) (ha : Sen w a) (hb : Sen w b) :
    Calls Tryd.prog 45 #[chn l (snt a), snt b, .bool true] w fun r w' => r = .returned (.bool (decide (a = b))) ∧ Below w.heap.size w w' := by
  rw [← cur_zero]
  have m2 := Tryd.methodUnwrap
  have n1 := Tryd.noIsS
  have n2 := Tryd.noUnwrapS
  have n3 := Tryd.noUnwrapsS
  have n4 := Tryd.noIsF
  have n5 := Tryd.hasUnwrapF
  have e1 := eqFS
  have HA := Hid.in ha
  have HS := Hid.in hb
  clear ha hb
  go_enter Tryd.func45, Tryd.ntmps45
  go_wp2
  go_loopw [0] (fun e wr => ∃ k : Nat, k ≤ l.length ∧ e = cur l a k ∧ Below w.heap.size w wr) (fun e _ => SizeOf.sizeOf e)
  case atStart => exact ⟨0, Nat.zero_le _, rfl, Below.refl _ _⟩
  case round =>
    obtain ⟨k, hk, rfl, hb⟩ := hrel
    have he := eqSS a b wr (HA.out.below hb HA.out.lt) (HS.out.below hb HS.out.lt)
    have HB := Hid.in hb
    clear hb
    rcases Nat.lt_or_eq_of_le hk with hlt | heq
    · clear he
      have hcu := cur_lt l a k hlt
      have hne : ∃ t v, cur l a (k + 1) = .iface t v := by
        rcases Nat.lt_or_eq_of_le hlt with h | h
        · exact ⟨_, _, cur_lt l a _ h⟩
        · exact ⟨_, _, cur_eq l a _ h⟩
      obtain ⟨t', v', he'⟩ := hne
      rw [hcu, he']
      have HE := Hid.in he'
      clear he' hcu
      go_wp2_with (go_at_call 72; refine (funwrap_any _ _ _ _).mono ?_; rintro e w' ⟨rfl, rfl⟩)
      go_roundw
      case rel => exact ⟨k + 1, hlt, HE.out.symm, HB.out.alloc HB.out.size _⟩
      case measure => exact size_flt _ _ _
    · have hcu := cur_eq l a k heq
      clear heq
      rw [hcu]
      clear hcu
      by_cases hab : a = b
      · have hd : decide (a = b) = true := by simp [hab]
        rw [hd] at he
        have HD := Hid.in hd
        clear hab hd
        go_wp2
        go_ret
        exact ⟨by rw [HD.out]; rfl, HB.out⟩
      · have hd : decide (a = b) = false := by simp [hab]
        rw [hd] at he
        have HD := Hid.in hd
        clear hab hd
        go_wp2
        go_ret
        exact ⟨by rw [HD.out]; rfl, HB.out⟩

theorem Tryd.methodComparable (h : Value) (w : World) : (Go.method 242 95 (.agg #[h]) "Comparable").run Tryd.prog w = .ok (78, .agg #[h]) w := by kernel_rfl

theorem Tryd.comparableS (w : World) : ((ReflectliteType.method fun t => do Rtype.noPackHeld "Comparable" t; (fun a => Value.bool a.comparable) <$> typeInfo t) #[.agg #[hnd 110]]).run Tryd.prog w = .ok (.bool true) w := by kernel_rfl

set_option maxHeartbeats 1600000 in
theorem Is_chn (l : List (ByteArray × Int)) (a b : Addr) (w : World) (ha : Sen w a) (hb : Sen w b) :
    Calls Tryd.prog 34 #[chn l (snt a), snt b] w fun r w' => r = .returned (.bool (decide (a = b))) ∧ Below w.heap.size w w' := by
  have h27 := @run_callFunc_extern Tryd.prog 44 _ ReflectliteType.typeOf Tryd.func44 (by kernel_rfl) (by kernel_rfl) (by kernel_rfl) (by kernel_rfl)
  have h64 := @run_callFunc_extern Tryd.prog 78 _ (ReflectliteType.method fun t => do Rtype.noPackHeld "Comparable" t; pure (.bool (← typeInfo t).comparable)) Tryd.func78 (by kernel_rfl) (by kernel_rfl) (by kernel_rfl) (by kernel_rfl)
  have t1 := Tryd.typeOfS
  have m1 := Tryd.methodComparable
  have c1 := Tryd.comparableS
  obtain ⟨t', v', he⟩ : ∃ t v, chn l (snt a) = .iface t v := by cases l with
    | nil => exact ⟨_, _, rfl⟩
    | cons x l => exact ⟨_, _, rfl⟩
  have hI := is_chn l a b w ha hb
  rw [he] at hI ⊢
  have HI := Hid.in hI
  clear hI he ha hb
  go_enter Tryd.func34, Tryd.ntmps34
  go_wp2_with (go_at_call 45; refine HI.out.mono ?_; rintro e w' ⟨rfl, hb⟩)
  go_ret
  exact ⟨rfl, hb⟩

theorem Is_nil (b : Addr) (w : World) : Calls Tryd.prog 34 #[.nilIface, snt b] w fun r w' => r = .returned (.bool false) ∧ w' = w := by
  have hn := run_eql_iface_nil_left (P := Tryd.prog) w 110 (.pointer (some b)) Tryd.underlying24
  go_enter Tryd.func34, Tryd.ntmps34
  go_wp2
  go_ret
  exact ⟨rfl, rfl⟩

end Go.Proofs.YtakomlmbdienpaaDoor

/- DERIVED of the program: errors.as over a way of Faults where nothing is assignable; the entries of reflectlite.Value that errors.As asks. Own work, after the guide's worked errors.As. -/
import Derived.Test.YtbjjabfeaacpkaaDoorAsA
namespace Go.Proofs.YtbjjabfeaacpkaaDoor
open Go.RowKit Go.Extern.Stop Go.Stop Go.Extern

set_option maxHeartbeats 1600000 in
/-- errors.as over a way of which no error is assignable: false. -/
theorem as_chn (T : Nat) (l : List (ByteArray × Int)) (a : Addr) (tg : Value) (w : World) (v0 v1 v2 : Value)
    (hS : ∀ w : World, (ReflectliteType.relation "AssignableTo" ReflectliteType.assignableTo #[.agg #[hnd 87], rty T]).run Tryd.prog w = .ok (.bool false) w)
    (hF : ∀ w : World, (ReflectliteType.relation "AssignableTo" ReflectliteType.assignableTo #[.agg #[hnd 26], rty T]).run Tryd.prog w = .ok (.bool false) w) :
    Calls Tryd.prog 33 #[chn l (snt a), tg, .agg #[v0, v1, v2], rty T] w fun r w' => r = .returned (.bool false) ∧ Below w.heap.size w w' := by
  rw [← cur_zero]
  have h27 := @run_callFunc_extern Tryd.prog 27 _ ReflectliteType.typeOf Tryd.func27 (by kernel_rfl) (by kernel_rfl) (by kernel_rfl) (by kernel_rfl)
  have h63 := @run_callFunc_extern Tryd.prog 63 _ (ReflectliteType.relation "AssignableTo" ReflectliteType.assignableTo) Tryd.func63 (by kernel_rfl) (by kernel_rfl) (by kernel_rfl) (by kernel_rfl)
  have t1 := Tryd.typeOfS
  have t2 := Tryd.typeOfF
  have m1 := Tryd.methodAssignableTo
  have m2 := Tryd.methodUnwrap
  have n1 := Tryd.noAsS
  have n2 := Tryd.noUnwrapS
  have n3 := Tryd.noUnwrapsS
  have n4 := Tryd.noAsF
  have n5 := Tryd.hasUnwrapF
  go_enter Tryd.func33, Tryd.ntmps33
  go_wp2
  go_loopw [0] (fun e wr => ∃ k : Nat, k ≤ l.length ∧ e = cur l a k ∧ Below w.heap.size w wr) (fun e _ => SizeOf.sizeOf e)
  case atStart => exact ⟨0, Nat.zero_le _, rfl, (Below.refl _ _).alloc (Nat.le_refl _) _⟩
  case round =>
    obtain ⟨k, hk, rfl, hb⟩ := hrel
    have HB := Hid.in hb
    clear hb
    rcases Nat.lt_or_eq_of_le hk with hlt | heq
    · have hcu := cur_lt l a k hlt
      have hci := cur_if l a (k + 1)
      have hne : ∃ t v, cur l a (k + 1) = .iface t v := by
        rcases Nat.lt_or_eq_of_le hlt with h | h
        · exact ⟨_, _, cur_lt l a _ h⟩
        · exact ⟨_, _, cur_eq l a _ h⟩
      obtain ⟨t', v', he'⟩ := hne
      rw [hcu, he']
      have HE := Hid.in he'
      have HC := Hid.in hcu
      clear he' hcu hci
      go_wp2_with (go_at_call 58; refine (funwrap_any _ _ _ _).mono ?_; rintro e w' ⟨rfl, rfl⟩)
      go_roundw
      case rel => exact ⟨k + 1, hlt, HE.out.symm, HB.out.alloc HB.out.size _⟩
      case measure => exact size_flt _ _ _
    · have hcu := cur_eq l a k heq
      clear heq
      rw [hcu]
      clear hcu
      go_wp2
      go_ret
      exact ⟨rfl, HB.out⟩
end Go.Proofs.YtbjjabfeaacpkaaDoor

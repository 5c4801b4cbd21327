/- DERIVED of the program: closed facts on the model's entries for internal/reflectlite at this dump's numbers; errors.as over a way of Faults where nothing is assignable. Own work, after the guide's worked errors.As. -/
import Derived.Test.YtbjjabfeaacpkaaDoorAsLaw
namespace Go.Proofs.YtbjjabfeaacpkaaDoor
open Go.RowKit Go.Extern.Stop Go.Stop Go.Extern

/-- The handle of a type. -/
abbrev hnd (T : Nat) : Value := .pointer (some ⟨11, T, none⟩)
/-- A reflectlite.Type. -/
abbrev rty (T : Nat) : Value := .iface 75 (.agg #[hnd T])
/-- A reflectlite.Value. -/
abbrev rva (T : Nat) (p : Addr) (f : Int) : Value := .agg #[hnd T, .pointer (some p), .int .u64 f]

theorem Tryd.descA : (Tryd.prog.info? 70).map (fun j => j.desc) = some (.interface #[("As", 85)]) := by kernel_rfl
theorem Tryd.descU : (Tryd.prog.info? 71).map (fun j => j.desc) = some (.interface #[("Unwrap", 81)]) := by kernel_rfl
theorem Tryd.typeOfF (v : Value) (w : World) : (ReflectliteType.typeOf #[.iface 26 v]).run Tryd.prog w = .ok (rty 26) w := by kernel_rfl
theorem Tryd.typeOfS (v : Value) (w : World) : (ReflectliteType.typeOf #[.iface 87 v]).run Tryd.prog w = .ok (rty 87) w := by kernel_rfl
theorem Tryd.methodAssignableTo (h : Value) (w : World) : (Go.method 220 75 (.agg #[h]) "AssignableTo").run Tryd.prog w = .ok (63, .agg #[h]) w := by kernel_rfl
theorem Tryd.assFF (w : World) : (ReflectliteType.relation "AssignableTo" ReflectliteType.assignableTo #[.agg #[hnd 26], rty 26]).run Tryd.prog w = .ok (.bool true) w := by kernel_rfl
theorem Tryd.assSF (w : World) : (ReflectliteType.relation "AssignableTo" ReflectliteType.assignableTo #[.agg #[hnd 87], rty 26]).run Tryd.prog w = .ok (.bool false) w := by kernel_rfl
theorem Tryd.assFA (w : World) : (ReflectliteType.relation "AssignableTo" ReflectliteType.assignableTo #[.agg #[hnd 26], rty 70]).run Tryd.prog w = .ok (.bool false) w :=
  run_assignable_no (fun _ => by kernel_rfl) (fun _ => by kernel_rfl) (by decide) (fun _ _ => by kernel_rfl) (fun _ _ => by kernel_rfl) (fun _ => by kernel_rfl) Tryd.descA Tryd.underlying26 (fun _ h => by cases h) (by kernel_rfl) w
theorem Tryd.assSA (w : World) : (ReflectliteType.relation "AssignableTo" ReflectliteType.assignableTo #[.agg #[hnd 87], rty 70]).run Tryd.prog w = .ok (.bool false) w :=
  run_assignable_no (fun _ => by kernel_rfl) (fun _ => by kernel_rfl) (by decide) (fun _ _ => by kernel_rfl) (fun _ _ => by kernel_rfl) (fun _ => by kernel_rfl) Tryd.descA Tryd.underlying87 (fun _ h => by cases h) (by kernel_rfl) w
theorem Tryd.assFU (w : World) : (ReflectliteType.relation "AssignableTo" ReflectliteType.assignableTo #[.agg #[hnd 26], rty 71]).run Tryd.prog w = .ok (.bool false) w :=
  run_assignable_no (fun _ => by kernel_rfl) (fun _ => by kernel_rfl) (by decide) (fun _ _ => by kernel_rfl) (fun _ _ => by kernel_rfl) (fun _ => by kernel_rfl) Tryd.descU Tryd.underlying26 (fun _ h => by cases h) (by kernel_rfl) w
theorem Tryd.assSU (w : World) : (ReflectliteType.relation "AssignableTo" ReflectliteType.assignableTo #[.agg #[hnd 87], rty 71]).run Tryd.prog w = .ok (.bool false) w :=
  run_assignable_no (fun _ => by kernel_rfl) (fun _ => by kernel_rfl) (by decide) (fun _ _ => by kernel_rfl) (fun _ _ => by kernel_rfl) (fun _ => by kernel_rfl) Tryd.descU Tryd.underlying87 (fun _ h => by cases h) (by kernel_rfl) w
theorem Tryd.noAsS (v : Value) (xT : TypeId) (w : World) : (Instr.typeAssert (.iface 87 v) xT 70 true).run Tryd.prog w = .ok (.tuple #[.nilIface, .bool false]) w := run_typeAssert_lacksB Tryd.underlying70 (by kernel_rfl) (by kernel_rfl) v xT w
theorem Tryd.noAsF (v : Value) (xT : TypeId) (w : World) : (Instr.typeAssert (.iface 26 v) xT 70 true).run Tryd.prog w = .ok (.tuple #[.nilIface, .bool false]) w := run_typeAssert_lacksB Tryd.underlying70 (by kernel_rfl) (by kernel_rfl) v xT w
theorem Tryd.noUnwrapsS (v : Value) (xT : TypeId) (w : World) : (Instr.typeAssert (.iface 87 v) xT 71 true).run Tryd.prog w = .ok (.tuple #[.nilIface, .bool false]) w := run_typeAssert_lacksB Tryd.underlying71 (by kernel_rfl) (by kernel_rfl) v xT w

/-- errors.as at a sentinel: not assignable: false. -/
theorem as_snt (T : Nat) (a : Addr) (tg V : Value) (w : World) (v0 v1 v2 : Value) (hV : V = .agg #[v0, v1, v2])
    (hA : ∀ w : World, (ReflectliteType.relation "AssignableTo" ReflectliteType.assignableTo #[.agg #[hnd 87], rty T]).run Tryd.prog w = .ok (.bool false) w) :
    Calls Tryd.prog 33 #[snt a, tg, V, rty T] w fun r w' => r = .returned (.bool false) ∧ Below w.heap.size w w' := by
  subst hV
  have h27 := @run_callFunc_extern Tryd.prog 27 _ ReflectliteType.typeOf Tryd.func27 (by kernel_rfl) (by kernel_rfl) (by kernel_rfl) (by kernel_rfl)
  have h63 := @run_callFunc_extern Tryd.prog 63 _ (ReflectliteType.relation "AssignableTo" ReflectliteType.assignableTo) Tryd.func63 (by kernel_rfl) (by kernel_rfl) (by kernel_rfl) (by kernel_rfl)
  have t1 := Tryd.typeOfS
  have m1 := Tryd.methodAssignableTo
  have n1 := Tryd.noAsS
  have n2 := Tryd.noUnwrapS
  have n3 := Tryd.noUnwrapsS
  go_enter Tryd.func33, Tryd.ntmps33
  go_wp2
  refine wp_loop_rounds 1 ?_
  rw [rounds_succ]
  go_wp2
  go_ret
  exact ⟨rfl, (Below.refl _ _).alloc (Nat.le_refl _) _⟩
end Go.Proofs.YtbjjabfeaacpkaaDoor

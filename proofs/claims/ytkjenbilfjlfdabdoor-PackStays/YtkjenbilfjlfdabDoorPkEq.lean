/- DERIVED of the program: two Faults of the same fields held against each other. Own work. -/
import Derived.Test.YtkjenbilfjlfdabDoorPkF
import Derived.Laws.StructEq
namespace Go.Proofs.YtkjenbilfjlfdabDoor
open Go.RowKit Go.Extern.Stop Go.Stop Go.Extern

theorem Tryd.faultComp : (Tryd.prog.info? 49).map (·.comparable) = some true := by kernel_rfl

theorem eqIn_if (d : Nat) (x y : Value) (w : World) : (Op.equalIn (d + 1) 27 (.iface 49 x) (.iface 49 y)).run Tryd.prog w = (Op.equalIn d 49 x y).run Tryd.prog w := by
  obtain ⟨i, hi, hcmp⟩ := Option.map_eq_some_iff.1 Tryd.faultComp
  simp [Op.equalIn, run_underlying Tryd.underlying27, typeInfo, hi, hcmp]

theorem eqIn_flt (d : Nat) (op : ByteArray) (n : Int) (a : Addr) (w : World) : (Op.equalIn (d + 3) 49 (.agg #[.string op, .int .i64 n, snt a]) (.agg #[.string op, .int .i64 n, snt a])).run Tryd.prog w = .ok true w := by
  obtain ⟨i, hi, hcmp⟩ := Option.map_eq_some_iff.1 Tryd.isComp
  obtain ⟨j, hj, hjs⟩ := Option.map_eq_some_iff.1 Tryd.isSize
  have h1 := run_equalIn_iface_ptr_same (P := Tryd.prog) w d a Tryd.underlying27 Tryd.underlying85 hi hcmp hj
  rw [run_equalIn_struct w (d + 2) 49 _ _ Tryd.underlying49 (by kernel_rfl)]
  simp [Op.eqFields, go_sem, h1]

theorem neFF (op : ByteArray) (n : Int) (a : Addr) (w : World) : (binOp .neq 27 (flt op n (snt a)) (flt op n (snt a))).run Tryd.prog w = .ok (.bool false) w := by
  have h := (eqIn_if 9999 (.agg #[.string op, .int .i64 n, snt a]) (.agg #[.string op, .int .i64 n, snt a]) w).trans (eqIn_flt 9996 op n a w)
  simp only [binOp]
  simp [Op.equal, Op.maxDepth, h]

end Go.Proofs.YtkjenbilfjlfdabDoor

/- DERIVED of the program: an entry held against itself. Own work. -/
import Derived.Test.YtcackmmfnojpfaaDoorArG
import Derived.Laws.StructEq
import Derived.ChangeKeysEq
namespace Go.Proofs.YtcackmmfnojpfaaDoor
open Go.RowKit Go.Extern.Stop Go.Stop Go.Extern

theorem Tryd.cellsU32' : Tryd.prog.cellsOf 28 = 1 := by kernel_rfl
theorem Tryd.infoU32 : ∃ i, Tryd.prog.info? 28 = some i := by
  have h : (Tryd.prog.info? 28).isSome = true := by kernel_rfl
  exact Option.isSome_iff_exists.1 h

theorem eq_line (d : Nat) (a b c e : Int) (w : World) : (Op.equalIn (d + 2) 30 (.agg #[.int .u32 a, .int .u32 b, .int .u32 c, .int .u32 e]) (.agg #[.int .u32 a, .int .u32 b, .int .u32 c, .int .u32 e])).run Tryd.prog w = .ok true w := by
  obtain ⟨i, hi⟩ := Tryd.infoU32
  rw [run_equalIn_array w (d + 1) _ _ Tryd.underlying30 hi, Tryd.cellsU32']
  simp [List.range_succ, Op.eqItems, go_sem]

set_option maxRecDepth 100000 in
theorem eq_entry (d : Nat) (e : En) (w : World) : (Op.equalIn (d + 3) 32 e.val e.val).run Tryd.prog w = .ok true w := by
  have h1 := eq_line d e.d0 e.d1 e.d2 e.d3 w
  rw [run_equalIn_struct w (d + 2) 32 _ _ Tryd.underlying32 (by kernel_rfl)]
  simp [Op.eqFields, go_sem, h1]

theorem ne_entry (e : En) (w : World) : (binOp .neq 32 e.val e.val).run Tryd.prog w = .ok (.bool false) w := by
  have h := eq_entry 9997 e w
  simp only [binOp]
  simp [Op.equal, Op.maxDepth, h]
theorem eq_entry' (e : En) (w : World) : (binOp .eql 32 e.val e.val).run Tryd.prog w = .ok (.bool true) w := by
  have h := eq_entry 9997 e w
  simp only [binOp]
  simp [Op.equal, Op.maxDepth, h]

set_option maxRecDepth 100000 in
theorem eq_rentry (d : Nat) (e : En) (w : World) : (Op.equalIn (d + 3) 46 e.val e.val).run Tryd.prog w = .ok true w := by
  have h1 := eq_line d e.d0 e.d1 e.d2 e.d3 w
  rw [run_equalIn_struct w (d + 2) 46 _ _ Tryd.underlying46 (by kernel_rfl)]
  simp [Op.eqFields, go_sem, h1]
theorem ne_rentry (e : En) (w : World) : (binOp .neq 46 e.val e.val).run Tryd.prog w = .ok (.bool false) w := by
  have h := eq_rentry 9997 e w
  simp only [binOp]
  simp [Op.equal, Op.maxDepth, h]
theorem eq_rentry' (e : En) (w : World) : (binOp .eql 46 e.val e.val).run Tryd.prog w = .ok (.bool true) w := by
  have h := eq_rentry 9997 e w
  simp only [binOp]
  simp [Op.equal, Op.maxDepth, h]

end Go.Proofs.YtcackmmfnojpfaaDoor

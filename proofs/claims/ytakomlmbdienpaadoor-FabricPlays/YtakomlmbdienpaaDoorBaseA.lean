/- DERIVED of the program: errors as values (a Fault, a sentinel, a way of Faults down to a sentinel), fault.Wrap, (Fault).Unwrap. Own work. -/
import Derived.Test.YtakomlmbdienpaaDoorGenA
import Derived.WalkKit
import Derived.LaidEql
import Derived.Stop.Asserts
import Derived.RowKitTokens
namespace Go.Proofs.YtakomlmbdienpaaDoor
open Go.RowKit Go.Extern.Stop Go.Stop Go.Extern

/-- A Fault as a value of type error. -/
abbrev flt (op : ByteArray) (at_ : Int) (e : Value) : Value := .iface 70 (.agg #[.string op, .int .i64 at_, e])

/-- A sentinel: what errors.New made. -/
abbrev snt (a : Addr) : Value := .iface 110 (.pointer (some a))

theorem wrap_nil (op : ByteArray) (n : Int) (w : World) :
    Calls Tryd.prog 30 #[.string op, .int .i64 n, .nilIface] w fun e w' => e = .returned .nilIface ∧ w' = w := by
  go_enter Tryd.func30, Tryd.ntmps30
  go_wp2
  go_ret
  exact ⟨rfl, rfl⟩

theorem wrap_some (op : ByteArray) (n : Int) (t : TypeId) (v : Value) (w : World) :
    Calls Tryd.prog 30 #[.string op, .int .i64 n, .iface t v] w fun e w' => e = .returned (flt op n (.iface t v)) ∧ w' = w := by
  go_enter Tryd.func30, Tryd.ntmps30
  go_wp2
  go_ret
  exact ⟨rfl, rfl⟩

theorem funwrap_any (op : ByteArray) (n : Int) (e : Value) (w : World) :
    Calls Tryd.prog 72 #[.agg #[.string op, .int .i64 n, e]] w fun r w' => r = .returned e ∧ w' = w.alloc (.cells #[.string op, .int .i64 n, e] 70) := by
  go_enter Tryd.func72, Tryd.ntmps72
  go_wp2
  go_ret
  exact ⟨rfl, rfl⟩

/-- A value of an interface type. -/
def isIf (e : Value) : Prop := e = .nilIface ∨ ∃ t v, e = .iface t v

theorem setCell_alloc {w : World} {q : Addr} (o : Obj) (e : Value) (h : q.block < w.heap.size) : (w.alloc o).setCell q e = (w.setCell q e).alloc o := by
  simp only [World.setCell, World.alloc]
  congr 1
  apply Array.ext_getElem?
  intro i
  simp only [Array.getElem?_modify, Array.getElem?_push, Array.size_modify]
  by_cases hi : i = w.heap.size
  · subst hi; simp; omega
  · simp [hi]

theorem alloc_cell {w : World} {q : Addr} {o : Value} (x : Obj) (hq : w.cell? q = some o) : (w.alloc x).cell? q = some o := by
  rw [World.cell?_alloc_lt _ _ q (lt_cell hq)]; exact hq

theorem alloc_frozen {w : World} {q : Addr} {o : Value} (x : Obj) (hq : w.cell? q = some o) (hf : w.frozen? q = false) : (w.alloc x).frozen? q = false := by
  rw [World.frozen?_alloc_old _ _ q (Nat.ne_of_lt (lt_cell hq))]; exact hf

/-- Old cells and marks behind a call that made memory alone. -/
theorem bcell {W w1 : World} (hb : Below W.heap.size W w1) : (∀ b o, b < W.heap.size → w1.cell? ⟨b, o, none⟩ = W.cell? ⟨b, o, none⟩) ∧ (∀ b o, b < W.heap.size → w1.frozen? ⟨b, o, none⟩ = W.frozen? ⟨b, o, none⟩) :=
  ⟨fun b o h => hb.cell (p := ⟨b, o, none⟩) h, fun b o h => hb.frozen (p := ⟨b, o, none⟩) h⟩

theorem Tryd.noUnwrapS (v : Value) (xT : TypeId) (w : World) : (Instr.typeAssert (.iface 110 v) xT 100 true).run Tryd.prog w = .ok (.tuple #[.nilIface, .bool false]) w := run_typeAssert_lacksB Tryd.underlying100 (by kernel_rfl) (by kernel_rfl) v xT w

theorem Tryd.hasUnwrapF (v : Value) (xT : TypeId) (w : World) : (Instr.typeAssert (.iface 70 v) xT 100 true).run Tryd.prog w = .ok (.tuple #[.iface 70 v, .bool true]) w := run_typeAssert_hasB Tryd.underlying100 (by kernel_rfl) v xT w

theorem Tryd.methodUnwrap (v : Value) (w : World) : (Go.method 242 70 v "Unwrap").run Tryd.prog w = .ok (72, v) w := by kernel_rfl

/-- A way of Faults down to a root. -/
def chn : List (ByteArray × Int) → Value → Value
  | [], r => r
  | x :: l, r => flt x.1 x.2 (chn l r)

theorem chn_if (l : List (ByteArray × Int)) (a : Addr) : isIf (chn l (snt a)) := by
  cases l with
  | nil => exact .inr ⟨_, _, rfl⟩
  | cons x l => exact .inr ⟨_, _, rfl⟩

/-- What stands k steps down the way; behind the root there is nil. -/
def cur (l : List (ByteArray × Int)) (a : Addr) (k : Nat) : Value := if k ≤ l.length then chn (l.drop k) (snt a) else .nilIface

theorem cur_lt (l : List (ByteArray × Int)) (a : Addr) (k : Nat) (h : k < l.length) : cur l a k = flt l[k].1 l[k].2 (cur l a (k + 1)) := by
  unfold cur
  rw [if_pos (Nat.le_of_lt h), if_pos (show k + 1 ≤ l.length from h), List.drop_eq_getElem_cons h]
  rfl

theorem cur_eq (l : List (ByteArray × Int)) (a : Addr) (k : Nat) (h : k = l.length) : cur l a k = snt a := by
  subst h; simp [cur, chn]

theorem cur_gt (l : List (ByteArray × Int)) (a : Addr) (k : Nat) (h : l.length < k) : cur l a k = .nilIface := by
  unfold cur; rw [if_neg (by omega)]

theorem cur_if (l : List (ByteArray × Int)) (a : Addr) (k : Nat) : isIf (cur l a k) := by
  unfold cur; split
  · exact chn_if _ _
  · exact .inl rfl

theorem cur_zero (l : List (ByteArray × Int)) (a : Addr) : cur l a 0 = chn l (snt a) := by simp [cur]

theorem size_flt (op : ByteArray) (n : Int) (e : Value) : SizeOf.sizeOf e < SizeOf.sizeOf (flt op n e) := by
  simp [flt]; omega

theorem size_snt (a : Addr) : SizeOf.sizeOf Value.nilIface < SizeOf.sizeOf (snt a) := by
  simp [snt]; omega

end Go.Proofs.YtakomlmbdienpaaDoor

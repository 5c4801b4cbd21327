/- DERIVED of the program: closed facts on the model's entries for internal/reflectlite at this dump's numbers; errors.as at a sentinel and at a Fault, the target a *Fault. After the guide's worked errors.As. Own work. -/
import Derived.Test.YtakomlmbdienpaaDoorBaseA
namespace Go.Proofs.YtakomlmbdienpaaDoor
open Go.RowKit Go.Extern.Stop Go.Stop Go.Extern

/-- The handle of a type. -/
abbrev hnd (T : Nat) : Value := .pointer (some ⟨11, T, none⟩)

/-- A reflectlite.Type. -/
abbrev rty (T : Nat) : Value := .iface 95 (.agg #[hnd T])

/-- A reflectlite.Value. -/
abbrev rva (T : Nat) (p : Addr) (f : Int) : Value := .agg #[hnd T, .pointer (some p), .int .u64 f]

theorem Tryd.typeOfF (v : Value) (w : World) : (ReflectliteType.typeOf #[.iface 70 v]).run Tryd.prog w = .ok (rty 70) w := by kernel_rfl

theorem Tryd.typeOfS (v : Value) (w : World) : (ReflectliteType.typeOf #[.iface 110 v]).run Tryd.prog w = .ok (rty 110) w := by kernel_rfl

theorem Tryd.methodAssignableTo (h : Value) (w : World) : (Go.method 242 95 (.agg #[h]) "AssignableTo").run Tryd.prog w = .ok (77, .agg #[h]) w := by kernel_rfl

theorem Tryd.assFF (w : World) : (ReflectliteType.relation "AssignableTo" ReflectliteType.assignableTo #[.agg #[hnd 70], rty 70]).run Tryd.prog w = .ok (.bool true) w := by kernel_rfl

theorem Tryd.assSF (w : World) : (ReflectliteType.relation "AssignableTo" ReflectliteType.assignableTo #[.agg #[hnd 110], rty 70]).run Tryd.prog w = .ok (.bool false) w := by kernel_rfl

theorem Tryd.noAsS (v : Value) (xT : TypeId) (w : World) : (Instr.typeAssert (.iface 110 v) xT 107 true).run Tryd.prog w = .ok (.tuple #[.nilIface, .bool false]) w := run_typeAssert_lacksB Tryd.underlying107 (by kernel_rfl) (by kernel_rfl) v xT w

theorem Tryd.noAsF (v : Value) (xT : TypeId) (w : World) : (Instr.typeAssert (.iface 70 v) xT 107 true).run Tryd.prog w = .ok (.tuple #[.nilIface, .bool false]) w := run_typeAssert_lacksB Tryd.underlying107 (by kernel_rfl) (by kernel_rfl) v xT w

theorem Tryd.noUnwrapsS (v : Value) (xT : TypeId) (w : World) : (Instr.typeAssert (.iface 110 v) xT 102 true).run Tryd.prog w = .ok (.tuple #[.nilIface, .bool false]) w := run_typeAssert_lacksB Tryd.underlying102 (by kernel_rfl) (by kernel_rfl) v xT w

/-- errors.as at a sentinel: not assignable: false. -/
theorem as_snt (T : Nat) (a : Addr) (tg V : Value) (w : World) (v0 v1 v2 : Value) (hV : V = .agg #[v0, v1, v2])
    (hA : ∀ w : World, (ReflectliteType.relation "AssignableTo" ReflectliteType.assignableTo #[.agg #[hnd 110], rty T]).run Tryd.prog w = .ok (.bool false) w) :
    Calls Tryd.prog 49 #[snt a, tg, V, rty T] w fun r w' => r = .returned (.bool false) ∧ Below w.heap.size w w' := by
  subst hV
  have h27 := @run_callFunc_extern Tryd.prog 44 _ ReflectliteType.typeOf Tryd.func44 (by kernel_rfl) (by kernel_rfl) (by kernel_rfl) (by kernel_rfl)
  have h63 := @run_callFunc_extern Tryd.prog 77 _ (ReflectliteType.relation "AssignableTo" ReflectliteType.assignableTo) Tryd.func77 (by kernel_rfl) (by kernel_rfl) (by kernel_rfl) (by kernel_rfl)
  have t1 := Tryd.typeOfS
  have m1 := Tryd.methodAssignableTo
  have n1 := Tryd.noAsS
  have n2 := Tryd.noUnwrapS
  have n3 := Tryd.noUnwrapsS
  go_enter Tryd.func49, Tryd.ntmps49
  go_wp2
  refine wp_loop_rounds 1 ?_
  rw [rounds_succ]
  go_wp2
  go_ret
  exact ⟨rfl, (Below.refl _ _).alloc (Nat.le_refl _) _⟩

/-- A Fault's three cells, set. -/
def set3 (W : World) (tb : Nat) (op : ByteArray) (n : Int) (e : Value) : World := ((W.setCell ⟨tb, 0, none⟩ (.string op)).setCell ⟨tb, 1, none⟩ (.int .i64 n)).setCell ⟨tb, 2, none⟩ e

theorem set3_size (W : World) (tb : Nat) (op : ByteArray) (n : Int) (e : Value) : (set3 W tb op n e).heap.size = W.heap.size := by simp [set3, World.setCell]

theorem set3_alloc (W : World) (tb : Nat) (op : ByteArray) (n : Int) (e : Value) (o : Obj) (h : tb < W.heap.size) : set3 (W.alloc o) tb op n e = (set3 W tb op n e).alloc o := by
  unfold set3
  rw [setCell_alloc _ _ (by simpa using h), setCell_alloc _ _ (by simpa [World.setCell] using h), setCell_alloc _ _ (by simpa [World.setCell] using h)]

theorem Tryd.partsPF (a : Addr) (w : World) : (ReflectliteValue.parts (rva 74 a 150)).run Tryd.prog w = .ok (some (74, a, 150)) w := by kernel_rfl

theorem Tryd.partsF (a : Addr) (w : World) : (ReflectliteValue.parts (rva 70 a 153)).run Tryd.prog w = .ok (some (70, a, 153)) w := by kernel_rfl

theorem Tryd.partsFa (a : Addr) (w : World) : (ReflectliteValue.parts (rva 70 a 409)).run Tryd.prog w = .ok (some (70, a, 409)) w := by kernel_rfl

theorem Tryd.elemOfPF (w : World) : (Rtype.elem? 74).run Tryd.prog w = .ok (some 70) w := by kernel_rfl

theorem Tryd.mkF (p : Addr) (w : World) : (ReflectliteValue.mk 70 p ReflectliteValue.flagAddr).run Tryd.prog w = .ok (rva 70 p 409) w := by kernel_rfl

theorem Tryd.directF (w : World) : (Rtype.directlyAssignable 70 70).run Tryd.prog w = .ok true w := by kernel_rfl

theorem Tryd.valueOfF (x y z : Value) (w : World) : (ReflectliteValue.unpack (.iface 70 (.agg #[x, y, z]))).run Tryd.prog w = .ok (rva 70 ⟨w.heap.size, 0, none⟩ 153) (w.alloc (.cells #[x, y, z] 70)) := by kernel_rfl

/-- (Value).Elem at the Value of a *Fault that is not nil. -/
theorem Tryd.elemVF (a p : Addr) (W : World) (ha : W.cell? a = some (.pointer (some p))) :
    (ReflectliteValue.method (ReflectliteValue.valueError "reflectlite.Value.Elem" 0) ReflectliteValue.elem #[rva 74 a 150]).run Tryd.prog W = .ok (rva 70 p 409) W := by
  change Sem.run _ (Bind.bind (ReflectliteValue.parts (rva 74 a 150)) _) W = _
  simp only [Sem.run_bind, Tryd.partsPF, Result.andThen]
  simp [ReflectliteValue.elem, loadVar, isAgg, underlying, Tryd.underlying74, ha, Result.andThen, Tryd.elemOfPF, Tryd.mkF]

/-- (Value).Set: the Fault at block tb gets what the Value's own copy at block b holds. -/
theorem Tryd.setF (tb b : Nat) (o0 o1 o2 : Value) (op : ByteArray) (n : Int) (e : Value) (he : isIf e) (W : World) (hb0 : W.cell? ⟨b, 0, none⟩ = some (.string op)) (hb1 : W.cell? ⟨b, 1, none⟩ = some (.int .i64 n)) (hb2 : W.cell? ⟨b, 2, none⟩ = some e)
    (ht0 : W.cell? ⟨tb, 0, none⟩ = some o0) (ht1 : W.cell? ⟨tb, 1, none⟩ = some o1) (ht2 : W.cell? ⟨tb, 2, none⟩ = some o2) (hf0 : W.frozen? ⟨tb, 0, none⟩ = false) (hf1 : W.frozen? ⟨tb, 1, none⟩ = false) (hf2 : W.frozen? ⟨tb, 2, none⟩ = false) :
    (ReflectliteValue.set #[rva 70 ⟨tb, 0, none⟩ 409, rva 70 ⟨b, 0, none⟩ 153]).run Tryd.prog W
      = .ok (.tuple #[]) (set3 W tb op n e) := by
  change Sem.run _ (Bind.bind (ReflectliteValue.parts (rva 70 ⟨tb, 0, none⟩ 409)) (fun x => Bind.bind (ReflectliteValue.parts (rva 70 ⟨b, 0, none⟩ 153)) (fun y => _))) W = _
  simp only [Sem.run_bind, Tryd.partsFa, Tryd.partsF, Result.andThen]
  rcases he with rfl | ⟨t', v', rfl⟩
  all_goals
    simp [set3, ReflectliteValue.flagAddr, go_sem, hb0, hb1, hb2, Tryd.directF, ht0, ht1, ht2, hf0, hf1, hf2]

/-- What a Fault variable at block tb is, whatever it holds. -/
structure IsVar3 (W : World) (tb : Nat) : Prop where
  c0 : ∃ o, W.cell? ⟨tb, 0, none⟩ = some o
  c1 : ∃ o, W.cell? ⟨tb, 1, none⟩ = some o
  c2 : ∃ o, W.cell? ⟨tb, 2, none⟩ = some o
  f0 : W.frozen? ⟨tb, 0, none⟩ = false
  f1 : W.frozen? ⟨tb, 1, none⟩ = false
  f2 : W.frozen? ⟨tb, 2, none⟩ = false

theorem IsVar3.lt {W : World} {tb : Nat} (h : IsVar3 W tb) : tb < W.heap.size := by
  obtain ⟨o, ho⟩ := h.c0
  exact lt_cell ho

theorem IsVar3.alloc {W : World} {tb : Nat} (h : IsVar3 W tb) (x : Obj) : IsVar3 (W.alloc x) tb := by
  obtain ⟨⟨o0, h0⟩, ⟨o1, h1⟩, ⟨o2, h2⟩, f0, f1, f2⟩ := h
  exact ⟨⟨o0, alloc_cell x h0⟩, ⟨o1, alloc_cell x h1⟩, ⟨o2, alloc_cell x h2⟩, alloc_frozen x h0 f0, alloc_frozen x h1 f1, alloc_frozen x h2 f2⟩

set_option maxHeartbeats 1600000 in
theorem as_flt (op : ByteArray) (n : Int) (e : Value) (he : isIf e) (tg : Value) (p : Addr) (tb : Nat) (w : World) (hp : w.cell? p = some (.pointer (some ⟨tb, 0, none⟩))) (ht : IsVar3 w tb) :
    Calls Tryd.prog 49 #[flt op n e, tg, rva 74 p 150, rty 70] w fun r w' => r = .returned (.bool true) ∧ Below w.heap.size (set3 w tb op n e) w' := by
  have h27 := @run_callFunc_extern Tryd.prog 44 _ ReflectliteType.typeOf Tryd.func44 (by kernel_rfl) (by kernel_rfl) (by kernel_rfl) (by kernel_rfl)
  have h63 := @run_callFunc_extern Tryd.prog 77 _ (ReflectliteType.relation "AssignableTo" ReflectliteType.assignableTo) Tryd.func77 (by kernel_rfl) (by kernel_rfl) (by kernel_rfl) (by kernel_rfl)
  have h30 := @run_callFunc_extern Tryd.prog 46 _ (fun args => ReflectliteValue.unpack (args.getD 0 (.tuple #[]))) Tryd.func46 (by kernel_rfl) (by kernel_rfl) (by kernel_rfl) (by kernel_rfl)
  have h38 := @run_callFunc_extern Tryd.prog 52 _ (ReflectliteValue.method (ReflectliteValue.valueError "reflectlite.Value.Elem" 0) ReflectliteValue.elem) Tryd.func52 (by kernel_rfl) (by kernel_rfl) (by kernel_rfl) (by kernel_rfl)
  have h39 := @run_callFunc_extern Tryd.prog 53 _ ReflectliteValue.set Tryd.func53 (by kernel_rfl) (by kernel_rfl) (by kernel_rfl) (by kernel_rfl)
  have t2 := Tryd.typeOfF
  have m1 := Tryd.methodAssignableTo
  have a1 := Tryd.assFF
  have v1 := Tryd.valueOfF
  have hv := (ht.alloc (.cells #[hnd 74, .pointer (some p), .int .u64 150] 85)).alloc (.cells #[.string op, .int .i64 n, e] 70)
  have hlt := ht.lt
  obtain ⟨⟨o0, h0⟩, ⟨o1, h1⟩, ⟨o2, h2⟩, f0, f1, f2⟩ := hv
  have el := Tryd.elemVF p ⟨tb, 0, none⟩ (w.alloc (.cells #[hnd 74, .pointer (some p), .int .u64 150] 85)) (alloc_cell _ hp)
  have st := Tryd.setF tb (w.heap.size + 1) o0 o1 o2 op n e he ((w.alloc (.cells #[hnd 74, .pointer (some p), .int .u64 150] 85)).alloc (.cells #[.string op, .int .i64 n, e] 70)) (by simp [go_sem]) (by simp [go_sem]) (by simp [go_sem]) h0 h1 h2 f0 f1 f2
  clear h0 h1 h2 f0 f1 f2 hp ht
  go_enter Tryd.func49, Tryd.ntmps49
  go_wp2
  refine wp_loop_rounds 1 ?_
  rw [rounds_succ]
  go_wp2
  go_ret
  refine ⟨rfl, ?_⟩
  rw [set3_alloc _ _ _ _ _ _ (by simp; omega), set3_alloc _ _ _ _ _ _ hlt]
  exact ((Below.refl _ _).alloc (by rw [set3_size]; exact Nat.le_refl _) _).alloc (by simp [set3_size]) _

end Go.Proofs.YtakomlmbdienpaaDoor

/- DERIVED of the program: errors.As by its contracts, a *Fault as the target. After the guide's worked errors.As. Own work. -/
import Derived.Test.YtakomlmbdienpaaDoorBaseAs
namespace Go.Proofs.YtakomlmbdienpaaDoor
open Go.RowKit Go.Extern.Stop Go.Stop Go.Extern

/-- errors.As(nil, target). -/
theorem As_nil (t : Value) (w : World) :
    Calls Tryd.prog 36 #[.nilIface, t] w fun e w' => e = .returned (.bool false) ∧ w' = w := by
  go_enter Tryd.func36, Tryd.ntmps36
  go_wp2
  go_ret
  exact ⟨rfl, rfl⟩

theorem Tryd.methodKind (h : Value) (w : World) : (Go.method 242 95 (.agg #[h]) "Kind").run Tryd.prog w = .ok (68, h) w := by kernel_rfl

theorem Tryd.methodElem (h : Value) (w : World) : (Go.method 242 95 (.agg #[h]) "Elem").run Tryd.prog w = .ok (79, .agg #[h]) w := by kernel_rfl

theorem Tryd.methodImplements (h : Value) (w : World) : (Go.method 242 95 (.agg #[h]) "Implements").run Tryd.prog w = .ok (80, .agg #[h]) w := by kernel_rfl

theorem Tryd.implementsF (w : World) : (ReflectliteType.relation "Implements" ReflectliteType.implements_ #[.agg #[hnd 70], rty 24]).run Tryd.prog w = .ok (.bool true) w := by kernel_rfl

theorem Tryd.valueOfPF (t : Addr) (w : World) : (ReflectliteValue.unpack (.iface 74 (.pointer (some t)))).run Tryd.prog w = .ok (rva 74 ⟨w.heap.size, 0, none⟩ 150) (w.alloc (.cells #[.pointer (some t)] 74)) := by kernel_rfl

theorem Tryd.typePF (a : Addr) (w : World) : (ReflectliteValue.methodAny (ReflectliteValue.valueError "reflectlite.Value.Type" 0) (fun t _ _ _ => ReflectliteType.toType t) #[rva 74 a 150]).run Tryd.prog w = .ok (rty 74) w := by kernel_rfl

theorem Tryd.kindPF (w : World) : ((ReflectliteType.abiMethod fun t => (fun a : Nat => Value.int IntKind.u8 (a : Int)) <$> Rtype.kind t) #[hnd 74]).run Tryd.prog w = .ok (.int .u8 22) w := by kernel_rfl

theorem Tryd.kindF (w : World) : ((ReflectliteType.abiMethod fun t => (fun a : Nat => Value.int IntKind.u8 (a : Int)) <$> Rtype.kind t) #[hnd 70]).run Tryd.prog w = .ok (.int .u8 25) w := by kernel_rfl

theorem Tryd.isNilPF (a p : Addr) (W : World) (ha : W.cell? a = some (.pointer (some p))) :
    (ReflectliteValue.method (ReflectliteValue.valueError "reflectlite.Value.IsNil" 0) ReflectliteValue.isNil #[rva 74 a 150]).run Tryd.prog W = .ok (.bool false) W := by
  change Sem.run _ (Bind.bind (ReflectliteValue.parts (rva 74 a 150)) _) W = _
  simp only [Sem.run_bind, Tryd.partsPF, Result.andThen]
  simp [ReflectliteValue.isNil, loadVar, isAgg, underlying, Tryd.underlying74, ha, Result.andThen]

theorem Tryd.elemPF (w : World) : (ReflectliteType.method ReflectliteType.elem #[.agg #[hnd 74]]).run Tryd.prog w = .ok (rty 70) w := by kernel_rfl

set_option maxHeartbeats 1600000 in
theorem As_snt (a : Addr) (t : Addr) (w : World) (hg : w.cell? ⟨10, 0, none⟩ = some (rty 24)) :
    Calls Tryd.prog 36 #[snt a, .iface 74 (.pointer (some t))] w fun r w' => r = .returned (.bool false) ∧ Below w.heap.size w w' := by
  have h30 := @run_callFunc_extern Tryd.prog 46 _ (fun args => ReflectliteValue.unpack (args.getD 0 (.tuple #[]))) Tryd.func46 (by kernel_rfl) (by kernel_rfl) (by kernel_rfl) (by kernel_rfl)
  have h31 := @run_callFunc_extern Tryd.prog 47 _ (ReflectliteValue.methodAny (ReflectliteValue.valueError "reflectlite.Value.Type" 0) (fun t _ _ _ => ReflectliteType.toType t)) Tryd.func47 (by kernel_rfl) (by kernel_rfl) (by kernel_rfl) (by kernel_rfl)
  have h32 := @run_callFunc_extern Tryd.prog 48 _ (ReflectliteValue.method (ReflectliteValue.valueError "reflectlite.Value.IsNil" 0) ReflectliteValue.isNil) Tryd.func48 (by kernel_rfl) (by kernel_rfl) (by kernel_rfl) (by kernel_rfl)
  have h54 := @run_callFunc_extern Tryd.prog 68 _ (ReflectliteType.abiMethod fun t => do pure (.int .u8 (← Rtype.kind t))) Tryd.func68 (by kernel_rfl) (by kernel_rfl) (by kernel_rfl) (by kernel_rfl)
  have h65 := @run_callFunc_extern Tryd.prog 79 _ (ReflectliteType.method ReflectliteType.elem) Tryd.func79 (by kernel_rfl) (by kernel_rfl) (by kernel_rfl) (by kernel_rfl)
  have h66 := @run_callFunc_extern Tryd.prog 80 _ (ReflectliteType.relation "Implements" ReflectliteType.implements_) Tryd.func80 (by kernel_rfl) (by kernel_rfl) (by kernel_rfl) (by kernel_rfl)
  have f1 := Tryd.valueOfPF
  have f2 := Tryd.typePF
  have f3 := Tryd.methodKind
  have f4 := Tryd.methodElem
  have f5 := Tryd.methodImplements
  have f6 := Tryd.kindPF
  have f7 := Tryd.kindF
  have f8 := Tryd.elemPF
  have f9 := Tryd.implementsF
  have n8 := Tryd.isNilPF ⟨w.heap.size, 0, none⟩ t ((w.alloc (.cells #[.pointer (some t)] 74)).alloc (.cells #[hnd 74, .pointer (some ⟨w.heap.size, 0, none⟩), .int .u64 150] 85)) (by simp [go_sem])
  have hlt : 10 < w.heap.size := lt_cell hg
  have hg2 : ((w.alloc (.cells #[.pointer (some t)] 74)).alloc (.cells #[hnd 74, .pointer (some ⟨w.heap.size, 0, none⟩), .int .u64 150] 85)).cell? ⟨10, 0, none⟩ = some (rty 24) := alloc_cell _ (alloc_cell _ hg)
  go_enter Tryd.func36, Tryd.ntmps36
  go_wp2_with (go_at_call 49; refine (as_snt 70 a _ _ _ _ _ _ rfl Tryd.assSF).mono ?_; rintro e w' ⟨rfl, hb⟩)
  go_ret
  exact ⟨rfl, (((Below.refl _ _).alloc (Nat.le_refl _) _).alloc (by simp) _).trans (hb.mono (by simp; omega))⟩

set_option maxHeartbeats 1600000 in
theorem As_flt (op : ByteArray) (n : Int) (e : Value) (he : isIf e) (tb : Nat) (w : World) (hg : w.cell? ⟨10, 0, none⟩ = some (rty 24)) (ht : IsVar3 w tb) :
    Calls Tryd.prog 36 #[flt op n e, .iface 74 (.pointer (some ⟨tb, 0, none⟩))] w fun r w' => r = .returned (.bool true) ∧ Below w.heap.size (set3 w tb op n e) w' := by
  have h30 := @run_callFunc_extern Tryd.prog 46 _ (fun args => ReflectliteValue.unpack (args.getD 0 (.tuple #[]))) Tryd.func46 (by kernel_rfl) (by kernel_rfl) (by kernel_rfl) (by kernel_rfl)
  have h31 := @run_callFunc_extern Tryd.prog 47 _ (ReflectliteValue.methodAny (ReflectliteValue.valueError "reflectlite.Value.Type" 0) (fun t _ _ _ => ReflectliteType.toType t)) Tryd.func47 (by kernel_rfl) (by kernel_rfl) (by kernel_rfl) (by kernel_rfl)
  have h32 := @run_callFunc_extern Tryd.prog 48 _ (ReflectliteValue.method (ReflectliteValue.valueError "reflectlite.Value.IsNil" 0) ReflectliteValue.isNil) Tryd.func48 (by kernel_rfl) (by kernel_rfl) (by kernel_rfl) (by kernel_rfl)
  have h54 := @run_callFunc_extern Tryd.prog 68 _ (ReflectliteType.abiMethod fun t => do pure (.int .u8 (← Rtype.kind t))) Tryd.func68 (by kernel_rfl) (by kernel_rfl) (by kernel_rfl) (by kernel_rfl)
  have h65 := @run_callFunc_extern Tryd.prog 79 _ (ReflectliteType.method ReflectliteType.elem) Tryd.func79 (by kernel_rfl) (by kernel_rfl) (by kernel_rfl) (by kernel_rfl)
  have h66 := @run_callFunc_extern Tryd.prog 80 _ (ReflectliteType.relation "Implements" ReflectliteType.implements_) Tryd.func80 (by kernel_rfl) (by kernel_rfl) (by kernel_rfl) (by kernel_rfl)
  have f1 := Tryd.valueOfPF
  have f2 := Tryd.typePF
  have f3 := Tryd.methodKind
  have f4 := Tryd.methodElem
  have f5 := Tryd.methodImplements
  have f6 := Tryd.kindPF
  have f7 := Tryd.kindF
  have f8 := Tryd.elemPF
  have f9 := Tryd.implementsF
  have n8 := Tryd.isNilPF ⟨w.heap.size, 0, none⟩ ⟨tb, 0, none⟩ ((w.alloc (.cells #[.pointer (some ⟨tb, 0, none⟩)] 74)).alloc (.cells #[hnd 74, .pointer (some ⟨w.heap.size, 0, none⟩), .int .u64 150] 85)) (by simp [go_sem])
  have hlt : 10 < w.heap.size := lt_cell hg
  have hg2 : ((w.alloc (.cells #[.pointer (some ⟨tb, 0, none⟩)] 74)).alloc (.cells #[hnd 74, .pointer (some ⟨w.heap.size, 0, none⟩), .int .u64 150] 85)).cell? ⟨10, 0, none⟩ = some (rty 24) := alloc_cell _ (alloc_cell _ hg)
  have HT := Hid.in ht
  clear ht
  go_enter Tryd.func36, Tryd.ntmps36
  go_wp2_with (go_at_call 49; refine (as_flt op n e he _ ⟨w.heap.size, 0, none⟩ tb _ (by simp [go_sem]) ((HT.out.alloc _).alloc _)).mono ?_; rintro e w' ⟨rfl, hb⟩)
  go_ret
  refine ⟨rfl, ?_⟩
  rw [set3_alloc _ _ _ _ _ _ (by have := HT.out.lt; simp; omega), set3_alloc _ _ _ _ _ _ HT.out.lt] at hb
  exact (((Below.refl _ _).alloc (by rw [set3_size]; exact Nat.le_refl _) _).alloc (by simp [set3_size]) _).trans (hb.mono (by simp; omega))

/-- The one package variable that errors.As reads. -/
def ET (w : World) : Prop := w.cell? ⟨10, 0, none⟩ = some (rty 24)

theorem ET.alloc {w : World} (h : ET w) (o : Obj) : ET (w.alloc o) := alloc_cell o h

theorem ET.below {B : Nat} {w w' : World} (h : ET w) (hb : Below B w w') (hB : 10 < B) : ET w' := (hb.cell (p := ⟨10, 0, none⟩) hB).trans h

theorem ET.lt {w : World} (h : ET w) : 10 < w.heap.size := lt_cell h

theorem set3_cells {W : World} {tb : Nat} (op : ByteArray) (n : Int) (e : Value) (h : IsVar3 W tb) :
    (set3 W tb op n e).cell? ⟨tb, 0, none⟩ = some (.string op) ∧ (set3 W tb op n e).cell? ⟨tb, 1, none⟩ = some (.int .i64 n) ∧ (set3 W tb op n e).cell? ⟨tb, 2, none⟩ = some e := by
  obtain ⟨⟨o0, h0⟩, ⟨o1, h1⟩, ⟨o2, h2⟩, f0, f1, f2⟩ := h
  unfold set3
  refine ⟨?_, ?_, ?_⟩
  · rw [World.cell?_setCell_other _ _ _ _ (by simp), World.cell?_setCell_other _ _ _ _ (by simp)]
    exact World.cell?_setCell_same _ _ _ h0
  · rw [World.cell?_setCell_other _ _ _ _ (by simp)]
    exact World.cell?_setCell_same _ _ _ (u := o1) (by rw [World.cell?_setCell_other _ _ _ _ (by simp)]; exact h1)
  · exact World.cell?_setCell_same _ _ _ (u := o2) (by rw [World.cell?_setCell_other _ _ _ _ (by simp), World.cell?_setCell_other _ _ _ _ (by simp)]; exact h2)

theorem set3_steps {W : World} {tb : Nat} (op : ByteArray) (n : Int) (e : Value) (h : IsVar3 W tb) :
    (W.setCell ⟨tb, 0, none⟩ (.string op)).cell? ⟨tb, 0, none⟩ = some (.string op) ∧ ((W.setCell ⟨tb, 0, none⟩ (.string op)).setCell ⟨tb, 1, none⟩ (.int .i64 n)).cell? ⟨tb, 1, none⟩ = some (.int .i64 n) ∧ (((W.setCell ⟨tb, 0, none⟩ (.string op)).setCell ⟨tb, 1, none⟩ (.int .i64 n)).setCell ⟨tb, 2, none⟩ e).cell? ⟨tb, 2, none⟩ = some e := by
  have h3 := set3_cells op n e h
  obtain ⟨⟨o0, h0⟩, ⟨o1, h1⟩, ⟨o2, h2⟩, f0, f1, f2⟩ := h
  refine ⟨World.cell?_setCell_same _ _ _ h0, World.cell?_setCell_same _ _ _ (u := o1) (by rw [World.cell?_setCell_other _ _ _ _ (by simp)]; exact h1), h3.2.2⟩

/-- The zero Fault. -/
abbrev flt0 : Value := .agg #[.string ⟨#[]⟩, .int .i64 0, .nilIface]

theorem new_var3 (w : World) (k : Nat) (hk : k = w.heap.size) : IsVar3 (w.alloc (.cells #[.string ⟨#[]⟩, .int .i64 0, .nilIface] 70)) k := by
  subst hk
  exact ⟨⟨.string ⟨#[]⟩, by simp⟩, ⟨.int .i64 0, by simp⟩, ⟨.nilIface, by simp⟩, by simp, by simp, by simp⟩

/-- A new Fault variable that is known whole. -/
structure Zero3 (W : World) (tb : Nat) : Prop where
  c0 : W.cell? ⟨tb, 0, none⟩ = some (.string ⟨#[]⟩)
  c1 : W.cell? ⟨tb, 1, none⟩ = some (.int .i64 0)
  c2 : W.cell? ⟨tb, 2, none⟩ = some .nilIface
  f0 : W.frozen? ⟨tb, 0, none⟩ = false
  f1 : W.frozen? ⟨tb, 1, none⟩ = false
  f2 : W.frozen? ⟨tb, 2, none⟩ = false

theorem Zero3.below {B : Nat} {W W' : World} {tb : Nat} (h : Zero3 W tb) (hb : Below B W W') (hB : tb < B) : Zero3 W' tb :=
  ⟨(hb.cell (p := ⟨tb, 0, none⟩) hB).trans h.c0, (hb.cell (p := ⟨tb, 1, none⟩) hB).trans h.c1, (hb.cell (p := ⟨tb, 2, none⟩) hB).trans h.c2,
   (hb.frozen (p := ⟨tb, 0, none⟩) hB).trans h.f0, (hb.frozen (p := ⟨tb, 1, none⟩) hB).trans h.f1, (hb.frozen (p := ⟨tb, 2, none⟩) hB).trans h.f2⟩

theorem Zero3.new (w : World) (k : Nat) (hk : k = w.heap.size) : Zero3 (w.alloc (.cells #[.string ⟨#[]⟩, .int .i64 0, .nilIface] 70)) k := by
  subst hk
  exact ⟨by simp, by simp, by simp, by simp, by simp, by simp⟩

theorem Zero3.alloc {W : World} {tb : Nat} (h : Zero3 W tb) (o : Obj) : Zero3 (W.alloc o) tb :=
  ⟨alloc_cell o h.c0, alloc_cell o h.c1, alloc_cell o h.c2, alloc_frozen o h.c0 h.f0, alloc_frozen o h.c1 h.f1, alloc_frozen o h.c2 h.f2⟩

theorem frozen_set (W : World) (a b : Addr) (v : Value) : (W.setCell a v).frozen? b = W.frozen? b := by simp

theorem Zero3.aft {W : World} {tb k : Nat} (h : Zero3 W tb) (op : ByteArray) (n : Int) (e : Value) (hk : k ≠ tb) : Zero3 (set3 W k op n e) tb := by
  unfold set3
  constructor
  all_goals
    first
    | (rw [World.cell?_setCell_other _ _ _ _ (fun h => hk (congrArg Addr.block h)), World.cell?_setCell_other _ _ _ _ (fun h => hk (congrArg Addr.block h)), World.cell?_setCell_other _ _ _ _ (fun h => hk (congrArg Addr.block h))])
    | (rw [frozen_set, frozen_set, frozen_set])
  · exact h.c0
  · exact h.c1
  · exact h.c2
  · exact h.f0
  · exact h.f1
  · exact h.f2

end Go.Proofs.YtakomlmbdienpaaDoor

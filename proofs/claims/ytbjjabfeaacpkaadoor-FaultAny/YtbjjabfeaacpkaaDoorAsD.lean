/- DERIVED of the program: errors.As by its contracts: a *Fault as the target, and pointers to the two interfaces that 'strays' asks for. Own work, after the guide's worked errors.As. -/
import Derived.Test.YtbjjabfeaacpkaaDoorAsC
namespace Go.Proofs.YtbjjabfeaacpkaaDoor
open Go.RowKit Go.Extern.Stop Go.Stop Go.Extern

/-- errors.As(nil, target). -/
theorem As_nil (t : Value) (w : World) :
    Calls Tryd.prog 22 #[.nilIface, t] w fun e w' => e = .returned (.bool false) ∧ w' = w := by
  go_enter Tryd.func22, Tryd.ntmps22
  go_wp2
  go_ret
  exact ⟨rfl, rfl⟩

theorem Tryd.methodKind (h : Value) (w : World) : (Go.method 220 75 (.agg #[h]) "Kind").run Tryd.prog w = .ok (54, h) w := by kernel_rfl
theorem Tryd.methodElem (h : Value) (w : World) : (Go.method 220 75 (.agg #[h]) "Elem").run Tryd.prog w = .ok (65, .agg #[h]) w := by kernel_rfl
theorem Tryd.methodImplements (h : Value) (w : World) : (Go.method 220 75 (.agg #[h]) "Implements").run Tryd.prog w = .ok (66, .agg #[h]) w := by kernel_rfl
theorem Tryd.implementsF (w : World) : (ReflectliteType.relation "Implements" ReflectliteType.implements_ #[.agg #[hnd 26], rty 23]).run Tryd.prog w = .ok (.bool true) w := by kernel_rfl

theorem Tryd.valueOfPF (t : Addr) (w : World) : (ReflectliteValue.unpack (.iface 53 (.pointer (some t)))).run Tryd.prog w = .ok (rva 53 ⟨w.heap.size, 0, none⟩ 150) (w.alloc (.cells #[.pointer (some t)] 53)) := by kernel_rfl
theorem Tryd.typePF (a : Addr) (w : World) : (ReflectliteValue.methodAny (ReflectliteValue.valueError "reflectlite.Value.Type" 0) (fun t _ _ _ => ReflectliteType.toType t) #[rva 53 a 150]).run Tryd.prog w = .ok (rty 53) w := by kernel_rfl
theorem Tryd.kindPF (w : World) : ((ReflectliteType.abiMethod fun t => (fun a : Nat => Value.int IntKind.u8 (a : Int)) <$> Rtype.kind t) #[hnd 53]).run Tryd.prog w = .ok (.int .u8 22) w := by kernel_rfl
theorem Tryd.kindF (w : World) : ((ReflectliteType.abiMethod fun t => (fun a : Nat => Value.int IntKind.u8 (a : Int)) <$> Rtype.kind t) #[hnd 26]).run Tryd.prog w = .ok (.int .u8 25) w := by kernel_rfl
theorem Tryd.isNilPF (a p : Addr) (W : World) (ha : W.cell? a = some (.pointer (some p))) :
    (ReflectliteValue.method (ReflectliteValue.valueError "reflectlite.Value.IsNil" 0) ReflectliteValue.isNil #[rva 53 a 150]).run Tryd.prog W = .ok (.bool false) W := by
  change Sem.run _ (Bind.bind (ReflectliteValue.parts (rva 53 a 150)) _) W = _
  simp only [Sem.run_bind, Tryd.partsPF, Result.andThen]
  simp [ReflectliteValue.isNil, loadVar, isAgg, underlying, Tryd.underlying53, ha, Result.andThen]
theorem Tryd.elemPF (w : World) : (ReflectliteType.method ReflectliteType.elem #[.agg #[hnd 53]]).run Tryd.prog w = .ok (rty 26) w := by kernel_rfl

theorem Tryd.valueOfPA (t : Addr) (w : World) : (ReflectliteValue.unpack (.iface 72 (.pointer (some t)))).run Tryd.prog w = .ok (rva 72 ⟨w.heap.size, 0, none⟩ 150) (w.alloc (.cells #[.pointer (some t)] 72)) := by kernel_rfl
theorem Tryd.typePA (a : Addr) (w : World) : (ReflectliteValue.methodAny (ReflectliteValue.valueError "reflectlite.Value.Type" 0) (fun t _ _ _ => ReflectliteType.toType t) #[rva 72 a 150]).run Tryd.prog w = .ok (rty 72) w := by kernel_rfl
theorem Tryd.kindPA (w : World) : ((ReflectliteType.abiMethod fun t => (fun a : Nat => Value.int IntKind.u8 (a : Int)) <$> Rtype.kind t) #[hnd 72]).run Tryd.prog w = .ok (.int .u8 22) w := by kernel_rfl
theorem Tryd.kindA (w : World) : ((ReflectliteType.abiMethod fun t => (fun a : Nat => Value.int IntKind.u8 (a : Int)) <$> Rtype.kind t) #[hnd 70]).run Tryd.prog w = .ok (.int .u8 20) w := by kernel_rfl
theorem Tryd.isNilPA (a p : Addr) (W : World) (ha : W.cell? a = some (.pointer (some p))) :
    (ReflectliteValue.method (ReflectliteValue.valueError "reflectlite.Value.IsNil" 0) ReflectliteValue.isNil #[rva 72 a 150]).run Tryd.prog W = .ok (.bool false) W := by
  change Sem.run _ (Bind.bind (ReflectliteValue.parts (rva 72 a 150)) _) W = _
  simp only [Sem.run_bind, Tryd.partsPA, Result.andThen]
  simp [ReflectliteValue.isNil, loadVar, isAgg, underlying, Tryd.underlying72, ha, Result.andThen]
theorem Tryd.elemPA (w : World) : (ReflectliteType.method ReflectliteType.elem #[.agg #[hnd 72]]).run Tryd.prog w = .ok (rty 70) w := by kernel_rfl

theorem Tryd.valueOfPU (t : Addr) (w : World) : (ReflectliteValue.unpack (.iface 73 (.pointer (some t)))).run Tryd.prog w = .ok (rva 73 ⟨w.heap.size, 0, none⟩ 150) (w.alloc (.cells #[.pointer (some t)] 73)) := by kernel_rfl
theorem Tryd.typePU (a : Addr) (w : World) : (ReflectliteValue.methodAny (ReflectliteValue.valueError "reflectlite.Value.Type" 0) (fun t _ _ _ => ReflectliteType.toType t) #[rva 73 a 150]).run Tryd.prog w = .ok (rty 73) w := by kernel_rfl
theorem Tryd.kindPU (w : World) : ((ReflectliteType.abiMethod fun t => (fun a : Nat => Value.int IntKind.u8 (a : Int)) <$> Rtype.kind t) #[hnd 73]).run Tryd.prog w = .ok (.int .u8 22) w := by kernel_rfl
theorem Tryd.kindU (w : World) : ((ReflectliteType.abiMethod fun t => (fun a : Nat => Value.int IntKind.u8 (a : Int)) <$> Rtype.kind t) #[hnd 71]).run Tryd.prog w = .ok (.int .u8 20) w := by kernel_rfl
theorem Tryd.isNilPU (a p : Addr) (W : World) (ha : W.cell? a = some (.pointer (some p))) :
    (ReflectliteValue.method (ReflectliteValue.valueError "reflectlite.Value.IsNil" 0) ReflectliteValue.isNil #[rva 73 a 150]).run Tryd.prog W = .ok (.bool false) W := by
  change Sem.run _ (Bind.bind (ReflectliteValue.parts (rva 73 a 150)) _) W = _
  simp only [Sem.run_bind, Tryd.partsPU, Result.andThen]
  simp [ReflectliteValue.isNil, loadVar, isAgg, underlying, Tryd.underlying73, ha, Result.andThen]
theorem Tryd.elemPU (w : World) : (ReflectliteType.method ReflectliteType.elem #[.agg #[hnd 73]]).run Tryd.prog w = .ok (rty 71) w := by kernel_rfl

set_option maxHeartbeats 1600000 in
theorem As_chnA (l : List (ByteArray × Int)) (a : Addr) (t : Addr) (w : World) :
    Calls Tryd.prog 22 #[chn l (snt a), .iface 72 (.pointer (some t))] w fun r w' => r = .returned (.bool false) ∧ Below w.heap.size w w' := by
  have h30 := @run_callFunc_extern Tryd.prog 30 _ (fun args => ReflectliteValue.unpack (args.getD 0 (.tuple #[]))) Tryd.func30 (by kernel_rfl) (by kernel_rfl) (by kernel_rfl) (by kernel_rfl)
  have h31 := @run_callFunc_extern Tryd.prog 31 _ (ReflectliteValue.methodAny (ReflectliteValue.valueError "reflectlite.Value.Type" 0) (fun t _ _ _ => ReflectliteType.toType t)) Tryd.func31 (by kernel_rfl) (by kernel_rfl) (by kernel_rfl) (by kernel_rfl)
  have h32 := @run_callFunc_extern Tryd.prog 32 _ (ReflectliteValue.method (ReflectliteValue.valueError "reflectlite.Value.IsNil" 0) ReflectliteValue.isNil) Tryd.func32 (by kernel_rfl) (by kernel_rfl) (by kernel_rfl) (by kernel_rfl)
  have h54 := @run_callFunc_extern Tryd.prog 54 _ (ReflectliteType.abiMethod fun t => do pure (.int .u8 (← Rtype.kind t))) Tryd.func54 (by kernel_rfl) (by kernel_rfl) (by kernel_rfl) (by kernel_rfl)
  have h65 := @run_callFunc_extern Tryd.prog 65 _ (ReflectliteType.method ReflectliteType.elem) Tryd.func65 (by kernel_rfl) (by kernel_rfl) (by kernel_rfl) (by kernel_rfl)
  have h66 := @run_callFunc_extern Tryd.prog 66 _ (ReflectliteType.relation "Implements" ReflectliteType.implements_) Tryd.func66 (by kernel_rfl) (by kernel_rfl) (by kernel_rfl) (by kernel_rfl)
  have f1 := Tryd.valueOfPA
  have f2 := Tryd.typePA
  have f3 := Tryd.methodKind
  have f4 := Tryd.methodElem
  have f5 := Tryd.methodImplements
  have f6 := Tryd.kindPA
  have f7 := Tryd.kindA
  have f8 := Tryd.elemPA
  have f9 := Tryd.implementsF
  have n8 := Tryd.isNilPA ⟨w.heap.size, 0, none⟩ t ((w.alloc (.cells #[.pointer (some t)] 72)).alloc (.cells #[hnd 72, .pointer (some ⟨w.heap.size, 0, none⟩), .int .u64 150] 63)) (by simp [go_sem])
  obtain ⟨t', v', he⟩ : ∃ t v, chn l (snt a) = .iface t v := by cases l with
    | nil => exact ⟨_, _, rfl⟩
    | cons x l => exact ⟨_, _, rfl⟩
  have hA := fun (v0 v1 v2 : Value) (W : World) => as_chn 70 l a (.iface 72 (.pointer (some t))) W v0 v1 v2 Tryd.assSA Tryd.assFA
  rw [he] at hA ⊢
  have HA := Hid.in hA
  clear hA he
  go_enter Tryd.func22, Tryd.ntmps22
  go_wp2_with (go_at_call 33; refine (HA.out _ _ _ _).mono ?_; rintro e w' ⟨rfl, hb⟩)
  go_ret
  exact ⟨rfl, (((Below.refl _ _).alloc (Nat.le_refl _) _).alloc (by simp) _).trans (hb.mono (by simp; omega))⟩

set_option maxHeartbeats 1600000 in
theorem As_chnU (l : List (ByteArray × Int)) (a : Addr) (t : Addr) (w : World) :
    Calls Tryd.prog 22 #[chn l (snt a), .iface 73 (.pointer (some t))] w fun r w' => r = .returned (.bool false) ∧ Below w.heap.size w w' := by
  have h30 := @run_callFunc_extern Tryd.prog 30 _ (fun args => ReflectliteValue.unpack (args.getD 0 (.tuple #[]))) Tryd.func30 (by kernel_rfl) (by kernel_rfl) (by kernel_rfl) (by kernel_rfl)
  have h31 := @run_callFunc_extern Tryd.prog 31 _ (ReflectliteValue.methodAny (ReflectliteValue.valueError "reflectlite.Value.Type" 0) (fun t _ _ _ => ReflectliteType.toType t)) Tryd.func31 (by kernel_rfl) (by kernel_rfl) (by kernel_rfl) (by kernel_rfl)
  have h32 := @run_callFunc_extern Tryd.prog 32 _ (ReflectliteValue.method (ReflectliteValue.valueError "reflectlite.Value.IsNil" 0) ReflectliteValue.isNil) Tryd.func32 (by kernel_rfl) (by kernel_rfl) (by kernel_rfl) (by kernel_rfl)
  have h54 := @run_callFunc_extern Tryd.prog 54 _ (ReflectliteType.abiMethod fun t => do pure (.int .u8 (← Rtype.kind t))) Tryd.func54 (by kernel_rfl) (by kernel_rfl) (by kernel_rfl) (by kernel_rfl)
  have h65 := @run_callFunc_extern Tryd.prog 65 _ (ReflectliteType.method ReflectliteType.elem) Tryd.func65 (by kernel_rfl) (by kernel_rfl) (by kernel_rfl) (by kernel_rfl)
  have h66 := @run_callFunc_extern Tryd.prog 66 _ (ReflectliteType.relation "Implements" ReflectliteType.implements_) Tryd.func66 (by kernel_rfl) (by kernel_rfl) (by kernel_rfl) (by kernel_rfl)
  have f1 := Tryd.valueOfPU
  have f2 := Tryd.typePU
  have f3 := Tryd.methodKind
  have f4 := Tryd.methodElem
  have f5 := Tryd.methodImplements
  have f6 := Tryd.kindPU
  have f7 := Tryd.kindU
  have f8 := Tryd.elemPU
  have f9 := Tryd.implementsF
  have n8 := Tryd.isNilPU ⟨w.heap.size, 0, none⟩ t ((w.alloc (.cells #[.pointer (some t)] 73)).alloc (.cells #[hnd 73, .pointer (some ⟨w.heap.size, 0, none⟩), .int .u64 150] 63)) (by simp [go_sem])
  obtain ⟨t', v', he⟩ : ∃ t v, chn l (snt a) = .iface t v := by cases l with
    | nil => exact ⟨_, _, rfl⟩
    | cons x l => exact ⟨_, _, rfl⟩
  have hA := fun (v0 v1 v2 : Value) (W : World) => as_chn 71 l a (.iface 73 (.pointer (some t))) W v0 v1 v2 Tryd.assSU Tryd.assFU
  rw [he] at hA ⊢
  have HA := Hid.in hA
  clear hA he
  go_enter Tryd.func22, Tryd.ntmps22
  go_wp2_with (go_at_call 33; refine (HA.out _ _ _ _).mono ?_; rintro e w' ⟨rfl, hb⟩)
  go_ret
  exact ⟨rfl, (((Below.refl _ _).alloc (Nat.le_refl _) _).alloc (by simp) _).trans (hb.mono (by simp; omega))⟩

set_option maxHeartbeats 1600000 in
theorem As_snt (a : Addr) (t : Addr) (w : World) (hg : w.cell? ⟨10, 0, none⟩ = some (rty 23)) :
    Calls Tryd.prog 22 #[snt a, .iface 53 (.pointer (some t))] w fun r w' => r = .returned (.bool false) ∧ Below w.heap.size w w' := by
  have h30 := @run_callFunc_extern Tryd.prog 30 _ (fun args => ReflectliteValue.unpack (args.getD 0 (.tuple #[]))) Tryd.func30 (by kernel_rfl) (by kernel_rfl) (by kernel_rfl) (by kernel_rfl)
  have h31 := @run_callFunc_extern Tryd.prog 31 _ (ReflectliteValue.methodAny (ReflectliteValue.valueError "reflectlite.Value.Type" 0) (fun t _ _ _ => ReflectliteType.toType t)) Tryd.func31 (by kernel_rfl) (by kernel_rfl) (by kernel_rfl) (by kernel_rfl)
  have h32 := @run_callFunc_extern Tryd.prog 32 _ (ReflectliteValue.method (ReflectliteValue.valueError "reflectlite.Value.IsNil" 0) ReflectliteValue.isNil) Tryd.func32 (by kernel_rfl) (by kernel_rfl) (by kernel_rfl) (by kernel_rfl)
  have h54 := @run_callFunc_extern Tryd.prog 54 _ (ReflectliteType.abiMethod fun t => do pure (.int .u8 (← Rtype.kind t))) Tryd.func54 (by kernel_rfl) (by kernel_rfl) (by kernel_rfl) (by kernel_rfl)
  have h65 := @run_callFunc_extern Tryd.prog 65 _ (ReflectliteType.method ReflectliteType.elem) Tryd.func65 (by kernel_rfl) (by kernel_rfl) (by kernel_rfl) (by kernel_rfl)
  have h66 := @run_callFunc_extern Tryd.prog 66 _ (ReflectliteType.relation "Implements" ReflectliteType.implements_) Tryd.func66 (by kernel_rfl) (by kernel_rfl) (by kernel_rfl) (by kernel_rfl)
  have f1 := Tryd.valueOfPF
  have f2 := Tryd.typePF
  have f3 := Tryd.methodKind
  have f4 := Tryd.methodElem
  have f5 := Tryd.methodImplements
  have f6 := Tryd.kindPF
  have f7 := Tryd.kindF
  have f8 := Tryd.elemPF
  have f9 := Tryd.implementsF
  have n8 := Tryd.isNilPF ⟨w.heap.size, 0, none⟩ t ((w.alloc (.cells #[.pointer (some t)] 53)).alloc (.cells #[hnd 53, .pointer (some ⟨w.heap.size, 0, none⟩), .int .u64 150] 63)) (by simp [go_sem])
  have hlt : 10 < w.heap.size := lt_cell hg
  have hg2 : ((w.alloc (.cells #[.pointer (some t)] 53)).alloc (.cells #[hnd 53, .pointer (some ⟨w.heap.size, 0, none⟩), .int .u64 150] 63)).cell? ⟨10, 0, none⟩ = some (rty 23) := alloc_cell _ (alloc_cell _ hg)
  go_enter Tryd.func22, Tryd.ntmps22
  go_wp2_with (go_at_call 33; refine (as_snt 26 a _ _ _ _ _ _ rfl Tryd.assSF).mono ?_; rintro e w' ⟨rfl, hb⟩)
  go_ret
  exact ⟨rfl, (((Below.refl _ _).alloc (Nat.le_refl _) _).alloc (by simp) _).trans (hb.mono (by simp; omega))⟩

set_option maxHeartbeats 1600000 in
theorem As_flt (op : ByteArray) (n : Int) (e : Value) (he : isIf e) (tb : Nat) (w : World) (hg : w.cell? ⟨10, 0, none⟩ = some (rty 23)) (ht : IsVar3 w tb) :
    Calls Tryd.prog 22 #[flt op n e, .iface 53 (.pointer (some ⟨tb, 0, none⟩))] w fun r w' => r = .returned (.bool true) ∧ Below w.heap.size (set3 w tb op n e) w' := by
  have h30 := @run_callFunc_extern Tryd.prog 30 _ (fun args => ReflectliteValue.unpack (args.getD 0 (.tuple #[]))) Tryd.func30 (by kernel_rfl) (by kernel_rfl) (by kernel_rfl) (by kernel_rfl)
  have h31 := @run_callFunc_extern Tryd.prog 31 _ (ReflectliteValue.methodAny (ReflectliteValue.valueError "reflectlite.Value.Type" 0) (fun t _ _ _ => ReflectliteType.toType t)) Tryd.func31 (by kernel_rfl) (by kernel_rfl) (by kernel_rfl) (by kernel_rfl)
  have h32 := @run_callFunc_extern Tryd.prog 32 _ (ReflectliteValue.method (ReflectliteValue.valueError "reflectlite.Value.IsNil" 0) ReflectliteValue.isNil) Tryd.func32 (by kernel_rfl) (by kernel_rfl) (by kernel_rfl) (by kernel_rfl)
  have h54 := @run_callFunc_extern Tryd.prog 54 _ (ReflectliteType.abiMethod fun t => do pure (.int .u8 (← Rtype.kind t))) Tryd.func54 (by kernel_rfl) (by kernel_rfl) (by kernel_rfl) (by kernel_rfl)
  have h65 := @run_callFunc_extern Tryd.prog 65 _ (ReflectliteType.method ReflectliteType.elem) Tryd.func65 (by kernel_rfl) (by kernel_rfl) (by kernel_rfl) (by kernel_rfl)
  have h66 := @run_callFunc_extern Tryd.prog 66 _ (ReflectliteType.relation "Implements" ReflectliteType.implements_) Tryd.func66 (by kernel_rfl) (by kernel_rfl) (by kernel_rfl) (by kernel_rfl)
  have f1 := Tryd.valueOfPF
  have f2 := Tryd.typePF
  have f3 := Tryd.methodKind
  have f4 := Tryd.methodElem
  have f5 := Tryd.methodImplements
  have f6 := Tryd.kindPF
  have f7 := Tryd.kindF
  have f8 := Tryd.elemPF
  have f9 := Tryd.implementsF
  have n8 := Tryd.isNilPF ⟨w.heap.size, 0, none⟩ ⟨tb, 0, none⟩ ((w.alloc (.cells #[.pointer (some ⟨tb, 0, none⟩)] 53)).alloc (.cells #[hnd 53, .pointer (some ⟨w.heap.size, 0, none⟩), .int .u64 150] 63)) (by simp [go_sem])
  have hlt : 10 < w.heap.size := lt_cell hg
  have hg2 : ((w.alloc (.cells #[.pointer (some ⟨tb, 0, none⟩)] 53)).alloc (.cells #[hnd 53, .pointer (some ⟨w.heap.size, 0, none⟩), .int .u64 150] 63)).cell? ⟨10, 0, none⟩ = some (rty 23) := alloc_cell _ (alloc_cell _ hg)
  have HT := Hid.in ht
  clear ht
  go_enter Tryd.func22, Tryd.ntmps22
  go_wp2_with (go_at_call 33; refine (as_flt op n e he _ ⟨w.heap.size, 0, none⟩ tb _ (by simp [go_sem]) ((HT.out.alloc _).alloc _)).mono ?_; rintro e w' ⟨rfl, hb⟩)
  go_ret
  refine ⟨rfl, ?_⟩
  rw [set3_alloc _ _ _ _ _ _ (by have := HT.out.lt; simp; omega), set3_alloc _ _ _ _ _ _ HT.out.lt] at hb
  exact (((Below.refl _ _).alloc (by rw [set3_size]; exact Nat.le_refl _) _).alloc (by simp [set3_size]) _).trans (hb.mono (by simp; omega))
end Go.Proofs.YtbjjabfeaacpkaaDoor

/- DERIVED of the program: errors.Unwrap and fault.below over sentinels and Faults. Own work. -/
import Derived.Test.YtbjjabfeaacpkaaDoorErrA
namespace Go.Proofs.YtbjjabfeaacpkaaDoor
open Go.RowKit Go.Extern.Stop Go.Stop Go.Extern

theorem Tryd.noUnwrapS (v : Value) (xT : TypeId) (w : World) : (Instr.typeAssert (.iface 87 v) xT 79 true).run Tryd.prog w = .ok (.tuple #[.nilIface, .bool false]) w := run_typeAssert_lacksB Tryd.underlying79 (by kernel_rfl) (by kernel_rfl) v xT w
theorem Tryd.hasUnwrapF (v : Value) (xT : TypeId) (w : World) : (Instr.typeAssert (.iface 26 v) xT 79 true).run Tryd.prog w = .ok (.tuple #[.iface 26 v, .bool true]) w := run_typeAssert_hasB Tryd.underlying79 (by kernel_rfl) v xT w

theorem Tryd.methodUnwrap (v : Value) (w : World) : (Go.method 220 26 v "Unwrap").run Tryd.prog w = .ok (58, v) w := by kernel_rfl

theorem unwrap_snt (a : Addr) (w : World) :
    Calls Tryd.prog 35 #[snt a] w fun e w' => e = .returned .nilIface ∧ w' = w := by
  have h1 := Tryd.noUnwrapS
  go_enter Tryd.func35, Tryd.ntmps35
  go_wp2
  go_ret
  exact ⟨rfl, rfl⟩

theorem unwrap_flt (op : ByteArray) (n : Int) (e : Value) (w : World) :
    Calls Tryd.prog 35 #[flt op n e] w fun r w' => r = .returned e ∧ w' = w.alloc (.cells #[.string op, .int .i64 n, e] 26) := by
  have h1 := Tryd.hasUnwrapF
  have h2 := Tryd.methodUnwrap
  go_enter Tryd.func35, Tryd.ntmps35
  go_wp2
  go_ret
  exact ⟨rfl, rfl⟩

theorem below1_snt (a : Addr) (p q : Addr) (o : Value) (w : World) (hp : w.cell? p = some (snt a)) (hq : w.cell? q = some o) (hf : w.frozen? q = false) :
    Calls Tryd.prog 34 #[.pointer (some p), .pointer (some q)] w fun e w' => e = .returned (.bool true) ∧ Below w.heap.size (w.setCell q .nilIface) w' := by
  go_enter Tryd.func34, Tryd.ntmps34
  go_wp2_with (go_at_call 35; refine (unwrap_snt _ _).mono ?_; rintro e w' ⟨rfl, rfl⟩)
  go_ret
  exact ⟨rfl, Below.refl _ _⟩

theorem below1_flt (op : ByteArray) (n : Int) (e : Value) (he : isIf e) (p q : Addr) (o : Value) (w : World) (hp : w.cell? p = some (flt op n e)) (hq : w.cell? q = some o) (hf : w.frozen? q = false) :
    Calls Tryd.prog 34 #[.pointer (some p), .pointer (some q)] w fun r w' => r = .returned (.bool true) ∧ Below w.heap.size (w.setCell q e) w' := by
  have hb := lt_cell hq
  have hq' : (w.alloc (.cells #[.string op, .int .i64 n, e] 26)).cell? q = some o := by rw [World.cell?_alloc_lt _ _ q hb]; exact hq
  have hf' : (w.alloc (.cells #[.string op, .int .i64 n, e] 26)).frozen? q = false := by rw [World.frozen?_alloc_old _ _ q (Nat.ne_of_lt hb)]; exact hf
  rcases he with rfl | ⟨t, v, rfl⟩
  all_goals
    go_enter Tryd.func34, Tryd.ntmps34
    go_wp2_with (go_at_call 35; refine (unwrap_flt _ _ _ _).mono ?_; rintro e w' ⟨rfl, rfl⟩)
    go_ret
    refine ⟨rfl, ?_⟩
    rw [setCell_alloc _ _ hb]
    exact (Below.refl _ _).alloc (by simp [World.setCell]) _

theorem Tryd.enterBelow1 (caps : Array Value) (w : World) : (callFunc 34 caps).run Tryd.prog w = .ok (.enter 34 caps) w := by kernel_rfl

/-- What 'below' answers at an error whose next one is e: out of the closure's contract. -/
theorem below_of (x e : Value) (hx : isIf x) (he : isIf e) (w : World)
    (h : ∀ (p q : Addr) (o : Value) (W : World), W.cell? p = some x → W.cell? q = some o → W.frozen? q = false →
      Calls Tryd.prog 34 #[.pointer (some p), .pointer (some q)] W fun r w' => r = .returned (.bool true) ∧ Below W.heap.size (W.setCell q e) w') :
    Calls Tryd.prog 23 #[x] w fun r w' => r = .returned e ∧ Below w.heap.size w w' := by
  have hmf : ∀ (fn : Fn) (first cap : Array Value) (w : World), (Instr.makeFunc fn first cap).run Tryd.prog w = .ok (.func fn first cap) w := fun _ _ _ _ => rfl
  have hh : ∀ (W : World) (p q : Addr), W.cell? p = some x → W.cell? q = some .nilIface → W.frozen? q = false →
      Calls Tryd.prog 20 #[.func (.func 34) #[] #[.pointer (some p), .pointer (some q)]] W fun r w' => r = .returned (.bool true) ∧ Below W.heap.size (W.setCell q e) w' := fun W p q hp hq hf =>
    holds_set 34 _ true W q _ e (Tryd.enterBelow1 _) hq ((h p q .nilIface _ (alloc_cell _ hp) (alloc_cell _ hq) (alloc_frozen _ hq hf)).mono (fun r w' hr => by simpa using hr))
  have H := Hid.in hh
  clear hh h
  rcases he with rfl | ⟨t, v, rfl⟩ <;> rcases hx with rfl | ⟨t', v', rfl⟩
  all_goals
    go_enter Tryd.func23, Tryd.ntmps23
    go_wp2_with fail
    refine (H.out _ ⟨w.heap.size, 0, none⟩ ⟨w.heap.size + 1, 0, none⟩ (by simp [go_sem]) (by simp [go_sem]) (by simp [go_sem])).mono ?_
    rintro r w1 ⟨rfl, hb⟩
    have hc : w1.cell? ⟨w.heap.size + 1, 0, none⟩ = some _ := (hb.cell (p := ⟨w.heap.size + 1, 0, none⟩) (by simp)).trans (World.cell?_setCell_same _ _ _ (u := .nilIface) (by simp [go_sem]))
    have HB := Hid.in hb
    clear hb
    go_wp2
    go_ret
    exact ⟨rfl, ((((Below.refl _ _).alloc (Nat.le_refl _) _).alloc (by simp) _).setCell (by simp) _).trans (HB.out.mono (by simp; omega))⟩

theorem below_snt (a : Addr) (w : World) : Calls Tryd.prog 23 #[snt a] w fun r w' => r = .returned .nilIface ∧ Below w.heap.size w w' :=
  below_of _ _ (.inr ⟨_, _, rfl⟩) (.inl rfl) w (fun p q o W h1 h2 h3 => below1_snt a p q o W h1 h2 h3)
theorem below_flt (op : ByteArray) (n : Int) (e : Value) (he : isIf e) (w : World) : Calls Tryd.prog 23 #[flt op n e] w fun r w' => r = .returned e ∧ Below w.heap.size w w' :=
  below_of _ _ (.inr ⟨_, _, rfl⟩) he w (fun p q o W h1 h2 h3 => below1_flt op n e he p q o W h1 h2 h3)

/-- A way of Faults down to a root. -/
def chn : List (ByteArray × Int) → Value → Value
  | [], r => r
  | x :: l, r => flt x.1 x.2 (chn l r)

theorem chn_if (l : List (ByteArray × Int)) (a : Addr) : isIf (chn l (snt a)) := by
  cases l with
  | nil => exact .inr ⟨_, _, rfl⟩
  | cons x l => exact .inr ⟨_, _, rfl⟩

/-- Depth: of nil 0; of a way as many as stand on it. -/
theorem depth_nil (w : World) : Calls Tryd.prog 14 #[.nilIface] w fun r w' => r = .returned (.int .i64 0) ∧ w' = w := by
  go_enter Tryd.func14, Tryd.ntmps14
  go_wp2
  refine wp_loop_rounds 1 ?_
  rw [rounds_succ]
  go_wp2
  go_ret
  exact ⟨rfl, rfl⟩
end Go.Proofs.YtbjjabfeaacpkaaDoor
